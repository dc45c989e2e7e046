import Derived.Test.YtmlgajhhnojdjaaGreatDoorRBB
namespace Go.Proofs.YtmlgajhhnojdjaaGreatDoor
namespace Sq
open Go Aux RefS RefT
section
variable {text:B} {p:RP}
theorem fE {w:B}(hw:dL p w)(hp:¬p.typeOf w=cj){s:Nat->Nat}{t:WS}(ht:t.aj.length=24)(h:Rel s t){may:Nat}{c:B}(hc:bitsOf c=may):Rel (xd may [p.placeOf w] s) (p.now t w c):=Na (Iu hp) ht hw.fits h hc
theorem IK {w:B}(hw:dL p w){s:Nat->Nat}{t:WS}(ht:t.aj.length=24)(h:Rel s t){may:Nat}{c:B}(hc:bitsOf c=may):Rel (xd may (p.lS.fK (p.placeOf w)) s) (p.now t w c):=Na (vz hw.find hw.part) ht hw.fits h hc
theorem DH {w:B}(hw:dL p w){s:Nat->Nat}{t:WS}(ht:t.aj.length=24)(h:Rel s t):Rel (rE (p.lS.fK (p.placeOf w)) s) (p.now t w (left w)):=IL (vz hw.find hw.part) GC ht hw.fits h
theorem PA {w:B}(hw:dL p w)(hp:¬p.typeOf w=cj){s:Nat->Nat}{t:WS}(ht:t.aj.length=24)(h:Rel s t):Rel (rE [p.placeOf w] s) (p.now t w (left w)):=IL (Iu hp) (fun x hx=>by rw[jI]at hx;subst hx;rfl) ht hw.fits h
theorem Vu (t:WS)(ht:t.aj.length=24){w:B}(hw:p.fits w)(c d:B)(k:Nat):(p.now (p.now t w c) w d).at k=(p.now t w d).at k:=by
 rw[p.gQ (by rw[p.kD,ht]) hw,p.gQ ht hw,p.gQ ht hw];split<;>rfl
theorem Rel.congr {s:Nat->Nat}{t u:WS}(h:Rel s t)(e:∀k,t.at k=u.at k):Rel s u:=fun k hk=>by rw[h k hk,e k]
theorem PB {i:Nat}{s:Nat->Nat}{t:WS}(ht:t.aj.length=24)(h:Rel s t)(h1:dL p (word (p.line i) 1))(h2:dL p (word (p.line i) 2))(hw:word (p.line i) 0=[109,111,118,101])(qu:p.typeOf (word (p.line i) 2)=p.typeOf (word (p.line i) 1)):
  Rel (xd (if p.lS.kind (p.placeOf (word (p.line i) 2))=eG then s (p.placeOf (word (p.line i) 2)).slot else 2) (p.lS.fK (p.placeOf (word (p.line i) 1))) (rE (p.lS.fK (p.placeOf (word (p.line i) 2))) s)) (RP.cJ p (p.line i) t).1:=by
 have hT:=DH h2 ht h;have hl:(p.now t (word (p.line i) 2) (left (word (p.line i) 2))).aj.length=24:=by rw[p.kD,ht]
 have hk:(p.aj (word (p.line i) 2)).1<24:=by have:=h2.fits;have:=(RP.gq (p:=p) (w:=word (p.line i) 2) (RP.ez h2.find).choose_spec.1).2;unfold RP.fits at*;omega
 rw[He h2,qu,sh];unfold RP.cJ RP.taken;by_cases ho:p.typeOf (word (p.line i) 1)=eG
 ·rw[jb ho];have e:word (p.line i) 0=[109,111,118,101]/\p.typeOf (word (p.line i) 1)=[111,112,116]:=⟨hw,ho⟩;simp only[e,and_self,if_true];have:=IK h1 hl hT (may:=s (p.aj (word (p.line i) 2)).1) (c:=t.at (p.aj (word (p.line i) 2)).1) (h _ hk).symm;exact this.congr fun k=>(Vu _ hl h1.fits _ _ k).symm
 ·rw[ja ho];have e:¬(word (p.line i) 0=[109,111,118,101]/\p.typeOf (word (p.line i) 1)=[111,112,116]):=fun x=>ho x.2
  simp only[e,if_false];exact IK h1 hl hT (by decide)
theorem S5 {i:Nat}{s:Nat->Nat}{t:WS}(ht:t.aj.length=24)(h:Rel s t)(h1:dL p (word (p.line i) 1))(h2:dL p (word (p.line i) 2))(hw:word (p.line i) 0=[115,111,109,101])(ht1:p.typeOf (word (p.line i) 1)=eG)(X2:p.typeOf (word (p.line i) 2)=kz):
  Rel (xd 2 [p.placeOf (word (p.line i) 1)] (rE [p.placeOf (word (p.line i) 2)] s)) (RP.cJ p (p.line i) t).1:=by
 have hT:=PA h2 (by rw[X2];exact D8) ht h;have hl:(p.now t (word (p.line i) 2) (left (word (p.line i) 2))).aj.length=24:=by rw[p.kD,ht]
 unfold RP.cJ RP.taken;have e:¬(word (p.line i) 0=[109,111,118,101]/\p.typeOf (word (p.line i) 1)=[111,112,116]):=fun x=>by have:=x.1;rw[hw]at this;exact absurd this (by decide)
 simp only[e,if_false];exact fE h1 (by rw[ht1];exact ya) hl hT (by decide)
def lV:List B:=[[115,101,116],[105,110],[97,100,100],[115,117,98],[109,117,108],[100,105,118],[111,117,116],[105,102],[101,110,100],[109,97,116,99,104],[110,101,119],[108,111,97,100],[115,116,111,114,101],[110,111,110,101],[100,114,111,112],[109,111,118,101],[115,111,109,101],[103,111,116,111]]
theorem JO (w:B)(h:(behind w false).2=true):w∈lV:=by
 by_cases hn:w∈lV
 ·exact hn
 ·exfalso;simp only[lV,List.mem_cons,List.not_mem_nil,or_false,not_or]at hn;obtain⟨h1,h2,h3,h4,h5,h6,h7,h8,h9,V5,oL,cf,En,B5,su,YD,YE,sv⟩:=hn;unfold behind at h;simp only[h1,h2,h3,h4,h5,h6,h7,h8,h9,V5,oL,cf,En,B5,su,YD,YE,sv,or_self,if_false]at h
  repeat (split at h<;>first|(cases h;done)|skip)
theorem aE.CX (h:aE text false p){i:Nat}(hb:p.body i):word (p.line i) 0∈lV:=by
 have hl:¬word (p.line i) 0=cv:=by have:=hb.2.1;simpa [isLet]using this
 have qk:¬word (p.line i) 0=aQ:=by have:=hb.2.2;simpa [al]using this
 have:=h.pre.form i hb.1;unfold dI at this;rw[ja hl,ja qk,h.raw]at this;simp only[Bool.and_eq_true]at this;exact JO _ this.1.1
theorem Tw {i:Nat}{t:WS}(ht:t.dS)(h1:dL p (word (p.line i) 1))(h2:dL p (word (p.line i) 2))(hw:word (p.line i) 0=[109,111,118,101])(qu:p.typeOf (word (p.line i) 2)=p.typeOf (word (p.line i) 1)):
  (RP.cJ p (p.line i) t).2=(p.there t (word (p.line i) 2)&&cx p t (word (p.line i) 1)):=by
 have Dg:(RP.cJ p (p.line i) t).2=(p.there t (word (p.line i) 2)&&(cx p (p.now t (word (p.line i) 2) (left (word (p.line i) 2))) (word (p.line i) 1)||(word (p.line i) 0==[115,111,109,101]))):=rfl;rw[Dg,hw,show(([109,111,118,101]:B)==[115,111,109,101])=false by decide,Bool.or_false];unfold cx;by_cases B8:partOf (word (p.line i) 1)=115
 ·have e1:(!(partOf (word (p.line i) 1)==115))=false:=by rw[B8];rfl
  rw[e1,Bool.false_or,Bool.false_or,p.gQ ht.len h2.fits];by_cases hx:p.jt (word (p.line i) 2) (p.aj (word (p.line i) 1)).1=true
  ·rw[jb hx];have hty1:p.j5 (word (p.line i) 1)=eG/\p.typeOf (word (p.line i) 1)=kz:=by
    have:=h1.type;unfold RP.typeOf at this⊢;rw[B8,ja (by decide),jb rfl]at this⊢;split at this
    ·rename_i e;exact⟨e,by rw[jb e]⟩
    ·exact absurd rfl this
   have GQ:p.typeOf (word (p.line i) 2)=kz:=qu.trans hty1.2;have B9:=pa (p:=p) (w:=word (p.line i) 2) (by rw[GQ];exact D8);have lv:(p.aj (word (p.line i) 1)).1=2*(p.find (ai (word (p.line i) 1))).toNat:=by
    unfold RP.aj;rw[ja (by rw[B8];decide)];split<;>rfl
   have heq:(p.aj (word (p.line i) 2)).1=(p.aj (word (p.line i) 1)).1:=by
    unfold RP.jt at hx;rw[B9]at hx;simp only[Bool.and_eq_true,decide_eq_true_eq]at hx;omega
   have Wp:partOf (word (p.line i) 2)=115:=by
    have hn98:¬partOf (word (p.line i) 2)=98:=fun e=>by
     have:(p.aj (word (p.line i) 2)).1=2*(p.find (ai (word (p.line i) 2))).toNat+1:=by unfold RP.aj;rw[jb e]
     omega
    have RN:(p.aj (word (p.line i) 2)).1=2*(p.find (ai (word (p.line i) 2))).toNat:=by
     unfold RP.aj;rw[ja hn98];split<;>rfl
    have X4:p.j5 (word (p.line i) 2)=eG:=by
     have:(p.find (ai (word (p.line i) 2))).toNat=(p.find (ai (word (p.line i) 1))).toNat:=by omega
     rw[<-hty1.1];unfold RP.j5;rw[this]
    unfold RP.typeOf at GQ;rw[X4]at GQ;rcases h2.part with e|e|e|e
    ·rw[e,ja (by decide),ja (by decide)]at GQ;exact absurd GQ (by decide)
    ·rw[e,jb (.inl rfl),ja ya]at GQ;exact absurd GQ (by decide)
    ·exact absurd e hn98
    ·exact e
   have sI:left (word (p.line i) 2)=[104]:=by unfold left;rw[jb Wp]
   rw[sI,show only [104] [119,104]=true by decide,Bool.and_true];cases T7:p.there t (word (p.line i) 2)
   ·rfl
   ·unfold RP.there RP.some at T7;rw[B9,ja (by rw[GQ];decide),dR,heq]at T7;split at T7
    ·rename_i ho;have:=(rk (ht.fc _).qh _).mp ho;rw[(rk (ht.fc _).qh [119,104]).mpr ⟨fun h=>absurd (this.1 h) (by decide),fun h=>absurd (this.2.1 h) (by decide),fun _=>by simp,fun h=>absurd (this.2.2.2 h) (by decide)⟩];rfl
    ·cases T7
  ·rw[ja hx]
 ·have e1:(!(partOf (word (p.line i) 1)==115))=true:=by simp[B8]
  rw[e1];rfl
theorem aE.M8 (h:aE text false p){i:Nat}(hb:p.body i){s:Nat->Nat}{t:WS}(ht:t.aj.length=24)(hr:Rel s t):Rel (p.lS.pass (p.ly i) s) (p.step (p.line i) t).1:=by
 have aw:(p.ly i).op=word (p.line i) 0:=rfl;have hm:=h.CX hb;have H:=fun f (hf:(behind (word (p.line i) 0) p.raw).1=f) k hk hc=>h.place hb hf k hk hc
 unfold dT.pass RP.step;rw[aw];simp only[lV,List.mem_cons,List.not_mem_nil,or_false]at hm;rcases hm with e|e|e|e|e|e|e|e|e|e|e|e|e|e|e|e|e|e
 ·have hf:(behind (word (p.line i) 0) p.raw).1=[105,110]:=by rw[e];rfl
  obtain⟨h1,t1⟩:=H _ hf 0 (by simp) (by rfl);rw[ia hf rfl];simp only[e];exact fE h1 (by rw[cK t1];exact int_ne) ht hr (by decide)
 ·have hf:(behind (word (p.line i) 0) p.raw).1=[105]:=by rw[e];rfl
  obtain⟨h1,t1⟩:=H _ hf 0 (by simp) (by rfl);rw[ia hf rfl];simp only[e];exact fE h1 (by rw[cK t1];exact int_ne) ht hr (by decide)
 ·have hf:(behind (word (p.line i) 0) p.raw).1=[105,105,105]:=by rw[e];rfl
  obtain⟨h1,t1⟩:=H _ hf 0 (by simp) (by rfl);rw[ia hf rfl];simp only[e];exact fE h1 (by rw[cK t1];exact int_ne) ht hr (by decide)
 ·have hf:(behind (word (p.line i) 0) p.raw).1=[105,105,105]:=by rw[e];rfl
  obtain⟨h1,t1⟩:=H _ hf 0 (by simp) (by rfl);rw[ia hf rfl];simp only[e];exact fE h1 (by rw[cK t1];exact int_ne) ht hr (by decide)
 ·have hf:(behind (word (p.line i) 0) p.raw).1=[105,105,105]:=by rw[e];rfl
  obtain⟨h1,t1⟩:=H _ hf 0 (by simp) (by rfl);rw[ia hf rfl];simp only[e];exact fE h1 (by rw[cK t1];exact int_ne) ht hr (by decide)
 ·have hf:(behind (word (p.line i) 0) p.raw).1=[105,105,105]:=by rw[e];rfl
  obtain⟨h1,t1⟩:=H _ hf 0 (by simp) (by rfl);rw[ia hf rfl];simp only[e];exact fE h1 (by rw[cK t1];exact int_ne) ht hr (by decide)
 ·simp only[e];exact hr
 ·simp only[e];exact hr
 ·simp only[e];exact hr
 ·simp only[e];exact hr
 ·have hf:(behind (word (p.line i) 0) p.raw).1=[112,105]:=by rw[e];rfl
  obtain⟨h1,t1⟩:=H _ hf 0 (by simp) (by rfl);rw[ia hf rfl];simp only[e];exact fE h1 (by rw[pd t1];exact D8) ht hr (by decide)
 ·have hf:(behind (word (p.line i) 0) p.raw).1=[105,112]:=by rw[e];rfl
  obtain⟨h1,t1⟩:=H _ hf 0 (by simp) (by rfl);rw[ia hf rfl];simp only[e];exact fE h1 (by rw[cK t1];exact int_ne) ht hr (by decide)
 ·simp only[e];exact hr
 ·have hf:(behind (word (p.line i) 0) p.raw).1=[111]:=by rw[e];rfl
  obtain⟨h1,t1⟩:=H _ hf 0 (by simp) (by rfl);rw[ia hf rfl];simp only[e];exact fE h1 (by rw[xp t1];exact ya) ht hr (by decide)
 ·have hf:(behind (word (p.line i) 0) p.raw).1=[100]:=by rw[e];rfl
  obtain⟨h1,t1⟩:=H _ hf 0 (by simp) (by rfl);rw[ia hf rfl];simp only[e];exact DH h1 ht hr
 ·have hf:(behind (word (p.line i) 0) p.raw).1=[109,109]:=by rw[e];rfl
  obtain⟨h1,t1⟩:=H _ hf 0 (by simp) (by rfl);obtain⟨h2,t2⟩:=H _ hf 1 (by simp) (by rfl);have:=PB ht hr h1 h2 e (BY t2).2;rw[ia hf rfl,BZ hf rfl rfl];simp only[e];exact this
 ·have hf:(behind (word (p.line i) 0) p.raw).1=[111,112]:=by rw[e];rfl
  obtain⟨h1,t1⟩:=H _ hf 0 (by simp) (by rfl);obtain⟨h2,t2⟩:=H _ hf 1 (by simp) (by rfl);have:=S5 ht hr h1 h2 e (xp t1) (pd t2);rw[ia hf rfl,BZ hf rfl rfl];simp only[e];exact this
 ·simp only[e];exact hr
end
end Sq
namespace Sq
open Go Aux RefS RefT
section
variable {text:B} {p:RP}
theorem iE (fit:Nat)(x y:bC)(s:Nat->Nat):dN fit [x,y] s=(dN fit [x] s||dN fit [y] s):=by
 simp[dN]
theorem iw (a b:Bool):(!a|| !b)= !(a&&b):=by cases a<;>cases b<;>rfl
theorem aE.QV (h:aE text false p){i:Nat}(hb:p.body i){s:Nat->Nat}{t:WS}(ht:t.dS)(hr:Rel s t):p.lS.Ef (p.ly i) s= !(p.step (p.line i) t).2:=by
 have aw:(p.ly i).op=word (p.line i) 0:=rfl;have hm:=h.CX hb;have H:=fun f (hf:(behind (word (p.line i) 0) p.raw).1=f) k hk hc=>h.place hb hf k hk hc
 have one:∀{w:B},dL p w->p.typeOf w=mM->dN 2 [p.placeOf w] s= !p.there t w:=fun hw e=>yo ht hr hw (by rw[e];exact int_ne) (by rw[e];decide)
 have box:∀{w:B},dL p w->p.typeOf w=kz->dN 2 [p.placeOf w] s= !p.there t w:=fun hw e=>yo ht hr hw (by rw[e];exact D8) (by rw[e];decide)
 unfold dT.Ef RP.step;rw[aw];simp only[lV,List.mem_cons,List.not_mem_nil,or_false]at hm;rcases hm with e|e|e|e|e|e|e|e|e|e|e|e|e|e|e|e|e|e
 ·simp only[e];rfl
 ·simp only[e];rfl
 ·have hf:(behind (word (p.line i) 0) p.raw).1=[105,105,105]:=by rw[e];rfl
  obtain⟨h2,t2⟩:=H _ hf 1 (by simp) (by rfl);obtain⟨h3,t3⟩:=H _ hf 2 (by simp) (by rfl);rw[(ze hf).2.1,(ze hf).2.2,iE,one h2 (cK t2),one h3 (cK t3),iw];simp only[e];rfl
 ·have hf:(behind (word (p.line i) 0) p.raw).1=[105,105,105]:=by rw[e];rfl
  obtain⟨h2,t2⟩:=H _ hf 1 (by simp) (by rfl);obtain⟨h3,t3⟩:=H _ hf 2 (by simp) (by rfl);rw[(ze hf).2.1,(ze hf).2.2,iE,one h2 (cK t2),one h3 (cK t3),iw];simp only[e];rfl
 ·have hf:(behind (word (p.line i) 0) p.raw).1=[105,105,105]:=by rw[e];rfl
  obtain⟨h2,t2⟩:=H _ hf 1 (by simp) (by rfl);obtain⟨h3,t3⟩:=H _ hf 2 (by simp) (by rfl);rw[(ze hf).2.1,(ze hf).2.2,iE,one h2 (cK t2),one h3 (cK t3),iw];simp only[e];rfl
 ·have hf:(behind (word (p.line i) 0) p.raw).1=[105,105,105]:=by rw[e];rfl
  obtain⟨h2,t2⟩:=H _ hf 1 (by simp) (by rfl);obtain⟨h3,t3⟩:=H _ hf 2 (by simp) (by rfl);rw[(ze hf).2.1,(ze hf).2.2,iE,one h2 (cK t2),one h3 (cK t3),iw];simp only[e];rfl
 ·have hf:(behind (word (p.line i) 0) p.raw).1=[105]:=by rw[e];rfl
  obtain⟨h1,t1⟩:=H _ hf 0 (by simp) (by rfl);rw[ia hf rfl,one h1 (cK t1)];simp only[e];rfl
 ·have hf:(behind (word (p.line i) 0) p.raw).1=[105,78,78]:=by rw[e];rfl
  obtain⟨h1,t1⟩:=H _ hf 0 (by simp) (by rfl);rw[ia hf rfl,one h1 (cK t1)];simp only[e];rfl
 ·have hf:(behind (word (p.line i) 0) p.raw).1=[105]:=by rw[e];rfl
  obtain⟨h1,t1⟩:=H _ hf 0 (by simp) (by rfl);rw[ia hf rfl,one h1 (cK t1)];simp only[e];rfl
 ·have hf:(behind (word (p.line i) 0) p.raw).1=[111,78,78]:=by rw[e];rfl
  obtain⟨h1,t1⟩:=H _ hf 0 (by simp) (by rfl);rw[ia hf rfl,DQ ht hr h1 (xp t1)];simp only[e];rfl
 ·have hf:(behind (word (p.line i) 0) p.raw).1=[112,105]:=by rw[e];rfl
  obtain⟨h1,t1⟩:=H _ hf 0 (by simp) (by rfl);obtain⟨h2,t2⟩:=H _ hf 1 (by simp) (by rfl);rw[ia hf rfl,BZ hf rfl rfl,one h2 (cK t2),E9 ht hr h1,iw];simp only[e];rfl
 ·have hf:(behind (word (p.line i) 0) p.raw).1=[105,112]:=by rw[e];rfl
  obtain⟨h2,t2⟩:=H _ hf 1 (by simp) (by rfl);rw[BZ hf rfl rfl,box h2 (pd t2)];simp only[e];rfl
 ·have hf:(behind (word (p.line i) 0) p.raw).1=[112,105]:=by rw[e];rfl
  obtain⟨h1,t1⟩:=H _ hf 0 (by simp) (by rfl);obtain⟨h2,t2⟩:=H _ hf 1 (by simp) (by rfl);rw[ia hf rfl,BZ hf rfl rfl,iE 2 (p.placeOf (word (p.line i) 1)),box h1 (pd t1),one h2 (cK t2),iw];simp only[e];rfl
 ·simp only[e];rfl
 ·have hf:(behind (word (p.line i) 0) p.raw).1=[100]:=by rw[e];rfl
  obtain⟨h1,t1⟩:=H _ hf 0 (by simp) (by rfl);rw[ia hf rfl,E9 ht hr h1];simp only[e];rfl
 ·have hf:(behind (word (p.line i) 0) p.raw).1=[109,109]:=by rw[e];rfl
  obtain⟨h1,t1⟩:=H _ hf 0 (by simp) (by rfl);obtain⟨h2,t2⟩:=H _ hf 1 (by simp) (by rfl);have:=Tw ht h1 h2 e (BY t2).2;rw[ia hf rfl,BZ hf rfl rfl,Ts ht hr h2,E9 ht hr h1,iw,<-this];simp only[e];rfl
 ·have hf:(behind (word (p.line i) 0) p.raw).1=[111,112]:=by rw[e];rfl
  obtain⟨h2,t2⟩:=H _ hf 1 (by simp) (by rfl);have Dg:(RP.cJ p (p.line i) t).2=(p.there t (word (p.line i) 2)&&(cx p (p.now t (word (p.line i) 2) (left (word (p.line i) 2))) (word (p.line i) 1)||(word (p.line i) 0==[115,111,109,101]))):=rfl;have Kk:(RP.cJ p (p.line i) t).2=p.there t (word (p.line i) 2):=by
   rw[Dg,e,show(([115,111,109,101]:B)==[115,111,109,101])=true by decide,Bool.or_true,Bool.and_true]
  rw[BZ hf rfl rfl,box h2 (pd t2),<-Kk];simp only[e];rfl
 ·simp only[e];rfl
def RP.im (p:RP)(wrong:Nat->Bool):Nat->Nat->Int
 |0,_=> -1
 |m+1,i=>if(!isLet (p.line i)&& !al (p.line i)&&wrong i)=true then i else RP.im p wrong m (i+1)
theorem AF {L:List WS}{wrong:Nat->Bool}(hw:∀i,p.body i->((lw L i).known&& !(p.step (p.line i) (lw L i)).2)=wrong i)(hl:∀i,i<p.lines.length->isLet (p.line i)=true->(lw L i).known=false):
  ∀(m i:Nat),i+m<=p.lines.length->p.cV L m i=p.im wrong m i
 |0,_,_=>rfl
 |m+1,i,hi=>by
  rw[RP.cV,RP.im,AF hw hl m (i+1) (by omega)];cases h1:isLet (p.line i)
  ·cases h2:al (p.line i)
   ·rw[hw i ⟨by omega,h1,h2⟩];rfl
   ·have yV:word (p.line i) 0=aQ:=by simpa [al]using h2
    rw[step_block p yV];simp
  ·rw[hl i (by omega) h1];simp
theorem aE.OK (h:aE text false p){L:List WS}(hL:p.iS L){i:Nat}(hi:i<p.lines.length)(hl:isLet (p.line i)=true):(lw L i).known=false:=by
 obtain⟨hR,hC⟩:=h.settled hL;have hz:p.ec (i+1)=0:=by
  have Km:al (p.line i)=false:=by
   have:word (p.line i) 0=cv:=by simpa [isLet]using hl
   simp[al,this];decide
  rw[p.du,Km];cases hc:p.ec i with
  |zero=>rfl
  |succ n=>have:=h.pO hi (by omega);rw[hl]at this;cases this
 have:=(hR.least _ (h.sT (h.vB hC)) i).1;cases hk:(lw L i).known
 ·rfl
 ·have:=this hk;unfold RP.spread at this;rw[jb hz]at this;cases this
theorem aE.QU (h:aE text false p){L:List WS}(hL:p.iS L){E:Nat->WS}(hE:mR p E)(hl:DW p E){wrong:Nat->Bool}(hw:∀i,p.body i->wrong i=((E (p.aI i)).known&& !(p.step (p.line i) (p.along E i)).2))
  (zm:∀i,p.body i->∀s t:WS,s.aj.length=24->t.aj.length=24->(∀k c,c∈s.at k↔c∈t.at k)->(p.step (p.line i) s).2=(p.step (p.line i) t).2):
  p.cV L p.lines.length 0=p.im wrong p.lines.length 0:=by
 obtain⟨hR,hC⟩:=h.settled hL;refine AF (fun i hb=> ?_) (fun i hi hl=>h.OK hL hi hl) _ 0 (by omega);rw[hw i hb];obtain⟨h1,h2⟩:=h.same hL hE hl hb;cases hk:(lw L i).known
 ·cases GJ:(E (p.aI i)).known
  ·rfl
  ·have:=h1.mpr GJ;rw[hk]at this;cases this
 ·rw[h1.mp hk,zm i hb _ _ (hC.len i) (fF hE.len i) (h2 hk)]
end
end Sq
namespace Sq
open Go Aux RefS RefT
def Qo (s t:WS):Prop:=∀k c,c∈s.at k↔c∈t.at k
section
variable {text:B} {p:RP}
theorem Bu {s s':B}(h:∀c,c∈s↔c∈s')(t:B):only s t=only s' t:=by
 rw[jX];simp only[only,List.all_eq_true];exact⟨fun x c hc=>x c ((h c).mpr hc),fun x c hc=>x c ((h c).mp hc)⟩
theorem sW {s t:WS}(h:Qo s t)(u:B):∀m k,dR s u m k=dR t u m k
 |0,_=>rfl
 |m+1,k=>by rw[dR,dR,Bu (h k),sW h u m]
theorem zc {s t:WS}(h:Qo s t)(w:B):p.there s w=p.there t w:=sW h _ _ _
theorem rI {s t:WS}(h:Qo s t)(w:B):cx p s w=cx p t w:=by
 unfold cx;rw[Bu (h _)]
theorem CE {i:Nat}(hf:p.dH (p.line i)){s t:WS}(hs:s.aj.length=24)(ht:t.aj.length=24)(h:Qo s t):(p.step (p.line i) s).2=(p.step (p.line i) t).2:=by
 unfold RP.step
 repeat' split
 all_goals first
  |rfl
  |(simp only[zc h,rI h];done)
  |skip
 rename_i hw;have h2:=hf.2 hw;have hn:Qo (p.now s (word (p.line i) 2) (left (word (p.line i) 2))) (p.now t (word (p.line i) 2) (left (word (p.line i) 2))):=fun k c=>by
  rw[p.gQ hs h2,p.gQ ht h2];split
  ·rfl
  ·exact h k c
 unfold RP.cJ;simp only[zc h,rI hn]
theorem aE.JX (h:aE text false p){L:List WS}(hL:p.iS L){E:Nat->WS}(hE:mR p E)(hl:DW p E){wrong:Nat->Bool}(hw:∀i,p.body i->wrong i=((E (p.aI i)).known&& !(p.step (p.line i) (p.along E i)).2)):
  p.cV L p.lines.length 0=p.im wrong p.lines.length 0:=
 h.QU hL hE hl hw fun i hb _ _ hs ht e=>CE (h.dH i hb.1) hs ht e
end
end Sq
namespace Sq
open Go Aux RefS RefT
section
variable {text:B} {p:RP}
theorem aE.Pb (h:aE text false p){i:Nat}(hb:p.body i)(hm:word (p.line i) 0=bS){s:Nat->Nat}{t:WS}(ht:t.aj.length=24)(hr:Rel s t):
  Rel (xd 4 [(p.ly i).w 0] s) (p.eE (p.line i) t 1)/\Rel (xd 2 [(p.ly i).w 0] s) (p.eE (p.line i) t 2):=by
 have hf:(behind (word (p.line i) 0) p.raw).1=[111,78,78]:=by rw[hm];rfl
 obtain⟨h1,t1⟩:=h.place hb hf 0 (by simp) (by rfl);have ho:=xp t1;rw[ia hf rfl];have e1:p.eE (p.line i) t 1=p.now t (word (p.line i) 1) [110]:=by
  unfold RP.eE;rw[ja (fun x=>absurd x.2 (by decide)),jb ⟨hm,rfl⟩]
 have e2:p.eE (p.line i) t 2=p.now t (word (p.line i) 1) [119]:=by
  unfold RP.eE;rw[jb ⟨hm,rfl⟩]
 rw[e1,e2];exact⟨fE h1 (by rw[ho];exact ya) ht hr (by decide),fE h1 (by rw[ho];exact ya) ht hr (by decide)⟩
theorem Pc {i k:Nat}{t:WS}(hm:¬word (p.line i) 0=bS):p.eE (p.line i) t k=t:=by
 unfold RP.eE;rw[ja (fun x=>hm x.1),ja (fun x=>hm x.1)]
theorem Pz:Rel (fun _=>1) jz:=fun k hk=>by
 have:jz.at k=[45]:=by
  unfold WS.at jz;simp only[List.getD_eq_getElem?_getD,List.getElem?_replicate,hk,if_true];rfl
 rw[this];rfl
theorem Uk {a b c:B}(h:∀x,x∈c↔x∈a\/x∈b):bitsOf c=bitsOf a|||bitsOf b:=by
 unfold bitsOf;simp only[h];by_cases h1:(45:UInt8)∈a<;>by_cases h2:(119:UInt8)∈a<;>by_cases h3:(110:UInt8)∈a<;>by_cases h4:(104:UInt8)∈a<;>
 by_cases g1:(45:UInt8)∈b<;>by_cases g2:(119:UInt8)∈b<;>by_cases g3:(110:UInt8)∈b<;>by_cases g4:(104:UInt8)∈b<;>simp[h1,h2,h3,h4,g1,g2,g3,g4]
def fI (v:Nat):B:=(if v.testBit 0 then [45]else [])++(if v.testBit 1 then [119]else [])++(if v.testBit 2 then [110]else [])++(if v.testBit 3 then [104]else [])
theorem D6:∀v,v<16->bitsOf (fI v)=v:=by decide
theorem Gg:∀v,v<16->dS (fI v):=by
 intro v hv;have:∀v,v<16->(fI v).Nodup/\∀c∈fI v,c∈eD:=by decide
 exact⟨(this v hv).1,(this v hv).2⟩
theorem Uj (s:B):bitsOf s<16:=by
 unfold bitsOf;repeat' split;all_goals decide
end
end Sq
namespace Aux
open Go Go.RowKit Sq RefR
def aS (w:World)(g:Nat)(L:List WS):Prop:=
 ∃cs,w.heap[g]?=some (.cells cs 155 (0,0))/\cs.size=25*L.length/\∀i j,i<L.length->j<25->cs[i*25+j]?=(lw L i).cells[j]?
section
variable {w w':World} {g:Nat} {L:List WS}
theorem aS.lt (h:aS w g L):g<w.heap.size:=by
 obtain⟨cs,h,-⟩:=h;rw[Array.getElem?_eq_some_iff]at h;exact h.1
theorem aS.below (h:aS w g L)(hb:Below w.heap.size w w'):aS w' g L:=by
 have hl:=h.lt;obtain⟨cs,h,h'⟩:=h;exact⟨cs,by rw[hb.block g hl];exact h,h'⟩
theorem aS.drew (h:aS w g L):aS w.drew g L:=h
theorem aS.drewN (h:aS w g L)(n:Nat):aS (w.drewN n) g L:=h
theorem aS.range (h:aS w g L)(hr:cO L)(i:Nat)(hi:i<L.length):w.rangeAt g (i*25) (lw L i).cells:=fun j v hv=>by
 obtain⟨cs,h,-,h'⟩:=h;have hj:j<25:=by
  rw[<-WS.cS (hr.fc i).ok];exact(List.getElem?_eq_some_iff.mp hv).1
 rw[cell_of_heap h,h' i j hi hj];exact hv
theorem aS.there (h:aS w g L)(i:Nat)(hi:i<L.length):w.there g (i*25) 25:=fun j hj=>by
 obtain⟨cs,h,hs,h'⟩:=h;rw[cell_of_heap h,frozen_of_heap h];have:i*25+j<cs.size:=by rw[hs];omega
 simp[this]
theorem aS.known (h:aS w g L)(i:Nat)(hi:i<L.length):w.cell? ⟨g,i*25,none⟩=some (.bool (lw L i).known):=by
 obtain⟨cs,h,-,h'⟩:=h;rw[cell_of_heap h,show i*25=i*25+0 by omega,h' i 0 hi (by omega)];rfl
theorem aS.frozen (h:aS w g L)(o:Nat):w.frozen? ⟨g,o,none⟩=false:=by
 obtain⟨cs,h,-⟩:=h;exact frozen_of_heap h o
theorem aS.store (h:aS w g L)(i:Nat)(hi:i<L.length){t:WS}(ht:t.Ok):aS (w.setCells g (i*25) t.cells) g (L.set i t):=by
 obtain⟨cs,h,hs,h'⟩:=h;obtain⟨cs',h1,h2,h3⟩:=eK g t.cells (i*25) w _ _ _ h;have hl:=WS.cS ht;refine⟨cs',h1,by rw[h2,hs];simp,fun a j ha hj=> ?_⟩;rw[List.length_set]at ha;rw[h3,lh L i t hi,hl];by_cases hai:a=i
 ·subst hai;rw[jb (by omega),jb rfl,show a*25+j-a*25=j by omega]
 ·rw[ja (by omega),ja hai];exact h' a j ha hj
theorem aS.other {b:Nat}(h:aS w g L)(ea:g≠b)(o:Nat)(vs:List Value):aS (w.setCells b o vs) g L:=by
 obtain⟨cs,h,h'⟩:=h;exact⟨cs,by rw[dd b vs o w g ea];exact h,h'⟩
theorem aS.setCell (h:aS w g L)(i j:Nat)(hi:i<L.length)(hj:j<25)(v:Value){t:WS}(ht:t.Ok)(he:t.cells=(lw L i).cells.set j v):aS (w.setCell ⟨g,i*25+j,none⟩ v) g (L.set i t):=by
 obtain⟨cs,h,hs,h'⟩:=h;refine⟨_,heap_setCell_same h _ v,by simp[hs],fun a k ha hk=> ?_⟩;rw[List.length_set]at ha;rw[Array.getElem?_setIfInBounds,lh L i t hi];by_cases hai:a=i
 ·subst hai;rw[jb rfl,he,jd];by_cases hjk:j=k
  ·subst hjk;have hl:=WS.cS ht;rw[he,List.length_set]at hl;rw[jb rfl,jb (by rw[hs];omega),jb rfl,jb (by omega)]
  ·rw[ja (by omega),ja hjk];exact h' a k ha hk
 ·rw[ja (by omega),ja hai];exact h' a k ha hk
end
def dD (w:World)(b o:Nat):Array Value:=((List.range 25).map fun j=>(w.cell? ⟨b,o+j,none⟩).getD undef).toArray
def qg (w:World)(b o:Nat):Prop:=∃s:WS,s.Ok/\w.rangeAt b o s.cells/\w.there b o 25
theorem yu {w:World}{b o:Nat}{s:WS}(hs:s.Ok)(h:w.rangeAt b o s.cells):dD w b o=s.cells.toArray:=by
 unfold dD;congr 1;apply List.ext_getElem?
 intro j;rw[jJ];have hl:=WS.cS hs;by_cases hj:j<25
 ·rw[List.getElem?_range hj,Option.map_some];have hv:s.cells[j]?=some s.cells[j]:=jB _;rw[h j _ hv,hv];rfl
 ·rw[jG (by simp;omega),jG (by rw[hl];omega)];rfl
def pQ:Value->Nat
 | .pointer (some ad)=>ad.off
 |_=>0
def xu (w:World)(v:Value):Prop:=∃b o,v=.pointer (some ⟨b,o,none⟩)/\qg w b o
@[simp] theorem mK (ad : Addr) : pQ (.pointer (some ad)) = ad.off := rfl
@[simp] theorem Ym (w : World) (b o : Nat) : xu w (.pointer (some ⟨b, o, none⟩)) = qg w b o := by
 simp only[xu,Value.pointer.injEq,Option.some.injEq,Addr.mk.injEq,and_true,eq_iff_iff];exact⟨fun⟨b',o',⟨h1,h2⟩,h⟩=>by rw[h1,h2];exact h,fun h=>⟨b,o,⟨rfl,rfl⟩,h⟩⟩
theorem Ll (w:World)(b o:Nat)(h:qg w b o):(loadVar 155 ⟨b,o,none⟩).run Tryz.prog w=.ok (.agg (dD w b o)) w:=by
 obtain⟨s,hs,hr,ht⟩:=h;rw[yu hs hr];exact run_loadVar_mid w b o 155 s.cells _ hr Tryz.underlying155 rfl (eC hs)
theorem I4 (w:World)(b o:Nat)(xs:Array Value)(h:qg w b o)(hx:df xs):(storeVar 155 ⟨b,o,none⟩ (.agg xs)).run Tryz.prog w=.ok () (w.setCells b o xs.toList):=by
 obtain⟨s,hs,hr,ht⟩:=h;obtain⟨t,Ol,rfl⟩:=hx;refine run_storeVar_mid w b o 155 t.cells.toArray ?_ (ou Ol) (all_oneCell_toArray (WS.xD t))
 rwa [<-WS.cS Ol,<-List.size_toArray]at ht
section
variable (d:Option Tmp) (x y:Operand) (t:TypeId) (ps:String) (af:Array Edge) (g:Option (Nat×Bool)) (a:Act) (w:World) (K:Act->World->Prop) (Q:Exit->Act->World->Prop)
theorem mN (h:xu w (a.eval x)):Oper.wp Tryz.prog {dst:=d,op:=Op.load 155 x,type:=t,pos:=ps,after:=af,guard:=g} a w K Q=K (a.put d (.agg (dD w (jx (a.eval x)) (pQ (a.eval x))))) w:=by
 obtain⟨b,o,hb,hh⟩:=h;have:=Ll w b o hh;unfold Oper.wp execOp;simp only[hb,Instr.loadAt,Instr.sureAddr,Sem.run_bind,Sem.run_pure,Result.andThen_ok,this,lN,mK];rfl
theorem kX (h:xu w (a.eval x))(h':rJ (a.eval y)):Oper.wp Tryz.prog {dst:=d,op:=Op.store 155 x y,type:=t,pos:=ps,after:=af,guard:=g} a w K Q=K (a.put d undef) (w.setCells (jx (a.eval x)) (pQ (a.eval x)) (qB (a.eval y)).toList):=by
 obtain⟨b,o,hb,hh⟩:=h;obtain⟨xs,hy,hx⟩:=h';have:=I4 w b o xs hh hx;unfold Oper.wp execOp;simp only[hb,hy,Instr.storeAt,Instr.sureAddr,Sem.run_bind,Sem.run_pure,Result.andThen_ok,this,lN,mK,tW];rfl
end
section
variable (o:Oper) (a:Act) (w:World) (K:Act->World->Prop) (Q:Exit->Act->World->Prop)
theorem zt (hl:iG o=true)(h:xu w (a.eval (lL o))):Oper.wp Tryz.prog o a w K Q=K (a.put o.dst (.agg (dD w (jx (a.eval (lL o))) (pQ (a.eval (lL o)))))) w:=by
 obtain⟨d,op,t,ps,af,g⟩:=o;unfold iG at hl;split at hl
 ·rename_i t' x heq;simp only at heq;subst heq;obtain rfl:t'=155:=by simpa using hl
  exact mN d x t ps af g a w K Q h
 ·cases hl
theorem yx (hl:gv o=true)(h:xu w (a.eval (lR o)))(h':rJ (a.eval (iI o))):Oper.wp Tryz.prog o a w K Q=K (a.put o.dst undef) (w.setCells (jx (a.eval (lR o))) (pQ (a.eval (lR o))) (qB (a.eval (iI o))).toList):=by
 obtain⟨d,op,t,ps,af,g⟩:=o;unfold gv at hl;split at hl
 ·rename_i t' x y heq;simp only at heq;subst heq;obtain rfl:t'=155:=by simpa using hl
  exact kX d x y t ps af g a w K Q h h'
 ·cases hl
end
theorem aA.eB {w:World}{b:Nat}{s:WS}(h:aA w b s)(hs:s.Ok):qg w b 0:=⟨s,hs,h.range,h.there hs⟩
theorem aS.eB {w:World}{g:Nat}{L:List WS}(h:aS w g L)(hr:cO L)(i:Nat)(hi:i<L.length):qg w g (i*25):=⟨_,(hr.fc i).ok,h.range hr i hi,h.there i hi⟩
theorem aA.dD {w:World}{b:Nat}{s:WS}(h:aA w b s)(hs:s.Ok):Aux.dD w b 0=s.cells.toArray:=yu hs h.range
theorem aS.dD {w:World}{g:Nat}{L:List WS}(h:aS w g L)(hr:cO L)(i:Nat)(hi:i<L.length):Aux.dD w g (i*25)=(lw L i).cells.toArray:=yu (hr.fc i).ok (h.range hr i hi)
end Aux
namespace Aux
open Go Go.RowKit Sq RefR
theorem Kz:(Tryz.prog.info? 155).map (fun i=>(i.zero.map Value.cells,i.size,i.bytes))=some (some aH.cells.toArray,25,392):=by kernel_rfl
theorem Mj:Tryz.prog.underlying 152=some (.slice 155):=by kernel_rfl
theorem Bk (w:World)(n:Nat):aS (w.alloc (.cells (madeCells aH.cells.toArray (n*25)) 155)) w.heap.size (List.replicate n aH):=by
 refine⟨madeCells aH.cells.toArray (n*25),by show(w.heap.push _)[w.heap.size]?=_;simp,by rw[size_madeCells];simp;omega,fun i j hi hj=> ?_⟩;rw[List.length_replicate]at hi;rw[zT];have hs:aH.cells.toArray.size=25:=by decide
 have Jq:j<aH.cells.toArray.size:=by rw[hs];exact hj
 have e:(i*25+j)%aH.cells.toArray.size=j:=by rw[hs];omega
 unfold madeCells;rw[Array.getElem?_map,Array.getElem?_range,jb (by omega),Option.map_some,e];rw[getElem!_pos _ j Jq];have:aH.cells[j]?=some aH.cells[j]:=jB _;rw[this];simp
theorem CD (n:Nat)(hn:n<=4000)(w:World):(Instr.makeSlice 152 (.int .i64 (n:Int)) (.int .i64 (n:Int))).run Tryz.prog w=.ok (.slice (some ⟨w.heap.size,0,none⟩) n n) (w.alloc (.cells (madeCells aH.cells.toArray (n*25)) 155)):=by
 obtain⟨i,hi,hx⟩:=Option.map_eq_some_iff.1 Kz;simp only[Prod.mk.injEq]at hx;obtain⟨hz,hs,hb⟩:=hx;obtain⟨z,hz,hc⟩:=Option.map_eq_some_iff.1 hz;have:=run_make (P:=Tryz.prog) w 152 155 i z Mj hi hz .i64 .i64 n n (by omega) (Int.le_refl _) (by rw[hb];omega) (by omega);rw[hs,hc]at this;simpa using this
theorem zH (w:World):qg (w.alloc (.cells #[.bool false,.string ⟨#[]⟩,.string ⟨#[]⟩,.string ⟨#[]⟩,.string ⟨#[]⟩,.string ⟨#[]⟩,.string ⟨#[]⟩,.string ⟨#[]⟩,.string ⟨#[]⟩,.string ⟨#[]⟩,.string ⟨#[]⟩,.string ⟨#[]⟩,.string ⟨#[]⟩,.string ⟨#[]⟩,.string ⟨#[]⟩,.string ⟨#[]⟩,.string ⟨#[]⟩,.string ⟨#[]⟩,.string ⟨#[]⟩,.string ⟨#[]⟩,.string ⟨#[]⟩,.string ⟨#[]⟩,.string ⟨#[]⟩,.string ⟨#[]⟩,.string ⟨#[]⟩] 155)) w.heap.size 0:=aA.eB (aA.new w aH) bE
theorem zZ (w:World){t:WS}(ht:t.Ok):aA ((w.alloc (.cells #[.bool false,.string ⟨#[]⟩,.string ⟨#[]⟩,.string ⟨#[]⟩,.string ⟨#[]⟩,.string ⟨#[]⟩,.string ⟨#[]⟩,.string ⟨#[]⟩,.string ⟨#[]⟩,.string ⟨#[]⟩,.string ⟨#[]⟩,.string ⟨#[]⟩,.string ⟨#[]⟩,.string ⟨#[]⟩,.string ⟨#[]⟩,.string ⟨#[]⟩,.string ⟨#[]⟩,.string ⟨#[]⟩,.string ⟨#[]⟩,.string ⟨#[]⟩,.string ⟨#[]⟩,.string ⟨#[]⟩,.string ⟨#[]⟩,.string ⟨#[]⟩,.string ⟨#[]⟩] 155)).setCells w.heap.size 0 t.cells) w.heap.size t:=(aA.new w aH).store bE ht
theorem fG {w0 w:World}{B:Nat}(h:Below B w0 w)(hB:B<=w.heap.size)(cs:List Value):Below B w0 ((w.alloc (.cells #[.bool false,.string ⟨#[]⟩,.string ⟨#[]⟩,.string ⟨#[]⟩,.string ⟨#[]⟩,.string ⟨#[]⟩,.string ⟨#[]⟩,.string ⟨#[]⟩,.string ⟨#[]⟩,.string ⟨#[]⟩,.string ⟨#[]⟩,.string ⟨#[]⟩,.string ⟨#[]⟩,.string ⟨#[]⟩,.string ⟨#[]⟩,.string ⟨#[]⟩,.string ⟨#[]⟩,.string ⟨#[]⟩,.string ⟨#[]⟩,.string ⟨#[]⟩,.string ⟨#[]⟩,.string ⟨#[]⟩,.string ⟨#[]⟩,.string ⟨#[]⟩,.string ⟨#[]⟩] 155)).setCells w.heap.size 0 cs):=ay (h.alloc hB _) hB 0 cs
end Aux
end Go.Proofs.YtmlgajhhnojdjaaGreatDoor

import Derived.Test.YtmlgajhhnojdjaaGreatDoorRAS
namespace Go.Proofs.YtmlgajhhnojdjaaGreatDoor
namespace Sq
open Go Aux RefS RefT
section
variable {text:B} {p:RP}
theorem fF {w:B}(hw:dM p w)(hp:¬p.typeOf w=cm){s:Nat->Nat}{t:WS}(ht:t.ak.length=24)(h:Rel s t){may:Nat}{c:B}(hc:bitsOf c=may):Rel (xe may [p.placeOf w] s) (p.now t w c):=Nb (Iv hp) ht hw.fits h hc
theorem IL {w:B}(hw:dM p w){s:Nat->Nat}{t:WS}(ht:t.ak.length=24)(h:Rel s t){may:Nat}{c:B}(hc:bitsOf c=may):Rel (xe may (p.lT.fL (p.placeOf w)) s) (p.now t w c):=Nb (vA hw.find hw.part) ht hw.fits h hc
theorem DI {w:B}(hw:dM p w){s:Nat->Nat}{t:WS}(ht:t.ak.length=24)(h:Rel s t):Rel (rG (p.lT.fL (p.placeOf w)) s) (p.now t w (left w)):=IM (vA hw.find hw.part) GD ht hw.fits h
theorem PB {w:B}(hw:dM p w)(hp:¬p.typeOf w=cm){s:Nat->Nat}{t:WS}(ht:t.ak.length=24)(h:Rel s t):Rel (rG [p.placeOf w] s) (p.now t w (left w)):=IM (Iv hp) (fun x hx=>by rw[jI]at hx;subst hx;rfl) ht hw.fits h
theorem Vv (t:WS)(ht:t.ak.length=24){w:B}(hw:p.fits w)(c d:B)(k:Nat):(p.now (p.now t w c) w d).at k=(p.now t w d).at k:=by
 rw[p.gR (by rw[p.kE,ht]) hw,p.gR ht hw,p.gR ht hw];split<;>rfl
theorem Rel.congr {s:Nat->Nat}{t u:WS}(h:Rel s t)(e:∀k,t.at k=u.at k):Rel s u:=fun k hk=>by rw[h k hk,e k]
theorem PD {i:Nat}{s:Nat->Nat}{t:WS}(ht:t.ak.length=24)(h:Rel s t)(h1:dM p (word (p.line i) 1))(h2:dM p (word (p.line i) 2))(hw:word (p.line i) 0=[109,111,118,101])(qv:p.typeOf (word (p.line i) 2)=p.typeOf (word (p.line i) 1)):
  Rel (xe (if p.lT.kind (p.placeOf (word (p.line i) 2))=eH then s (p.placeOf (word (p.line i) 2)).slot else 2) (p.lT.fL (p.placeOf (word (p.line i) 1))) (rG (p.lT.fL (p.placeOf (word (p.line i) 2))) s)) (RP.cK p (p.line i) t).1:=by
 have hT:=DI h2 ht h;have hl:(p.now t (word (p.line i) 2) (left (word (p.line i) 2))).ak.length=24:=by rw[p.kE,ht]
 have hk:(p.ak (word (p.line i) 2)).1<24:=by have:=h2.fits;have:=(RP.gu (p:=p) (w:=word (p.line i) 2) (RP.eA h2.find).choose_spec.1).2;unfold RP.fits at*;omega
 rw[Hf h2,qv,sj];unfold RP.cK RP.taken;by_cases ho:p.typeOf (word (p.line i) 1)=eH
 ·rw[jb ho];have e:word (p.line i) 0=[109,111,118,101]/\p.typeOf (word (p.line i) 1)=[111,112,116]:=⟨hw,ho⟩;simp only[e,and_self,if_true];have:=IL h1 hl hT (may:=s (p.ak (word (p.line i) 2)).1) (c:=t.at (p.ak (word (p.line i) 2)).1) (h _ hk).symm;exact this.congr fun k=>(Vv _ hl h1.fits _ _ k).symm
 ·rw[ja ho];have e:¬(word (p.line i) 0=[109,111,118,101]/\p.typeOf (word (p.line i) 1)=[111,112,116]):=fun x=>ho x.2
  simp only[e,if_false];exact IL h1 hl hT (by decide)
theorem S6 {i:Nat}{s:Nat->Nat}{t:WS}(ht:t.ak.length=24)(h:Rel s t)(h1:dM p (word (p.line i) 1))(h2:dM p (word (p.line i) 2))(hw:word (p.line i) 0=[115,111,109,101])(ht1:p.typeOf (word (p.line i) 1)=eH)(X3:p.typeOf (word (p.line i) 2)=kA):
  Rel (xe 2 [p.placeOf (word (p.line i) 1)] (rG [p.placeOf (word (p.line i) 2)] s)) (RP.cK p (p.line i) t).1:=by
 have hT:=PB h2 (by rw[X3];exact D9) ht h;have hl:(p.now t (word (p.line i) 2) (left (word (p.line i) 2))).ak.length=24:=by rw[p.kE,ht]
 unfold RP.cK RP.taken;have e:¬(word (p.line i) 0=[109,111,118,101]/\p.typeOf (word (p.line i) 1)=[111,112,116]):=fun x=>by have:=x.1;rw[hw]at this;exact absurd this (by decide)
 simp only[e,if_false];exact fF h1 (by rw[ht1];exact yb) hl hT (by decide)
def lW:List B:=[[115,101,116],[105,110],[97,100,100],[115,117,98],[109,117,108],[100,105,118],[111,117,116],[105,102],[101,110,100],[109,97,116,99,104],[110,101,119],[108,111,97,100],[115,116,111,114,101],[110,111,110,101],[100,114,111,112],[109,111,118,101],[115,111,109,101],[103,111,116,111]]
theorem JP (w:B)(h:(behind w false).2=true):w∈lW:=by
 by_cases hn:w∈lW
 ·exact hn
 ·exfalso;simp only[lW,List.mem_cons,List.not_mem_nil,or_false,not_or]at hn;obtain⟨h1,h2,h3,h4,h5,h6,h7,h8,h9,V6,oM,cg,Eo,B6,sv,YE,YF,sw⟩:=hn;unfold behind at h;simp only[h1,h2,h3,h4,h5,h6,h7,h8,h9,V6,oM,cg,Eo,B6,sv,YE,YF,sw,or_self,if_false]at h
  repeat (split at h<;>first|(cases h;done)|skip)
theorem aF.CY (h:aF text false p){i:Nat}(hb:p.body i):word (p.line i) 0∈lW:=by
 have hl:¬word (p.line i) 0=cx:=by have:=hb.2.1;simpa [isLet]using this
 have ql:¬word (p.line i) 0=aR:=by have:=hb.2.2;simpa [ao]using this
 have:=h.pre.form i hb.1;unfold dJ at this;rw[ja hl,ja ql,h.raw]at this;simp only[Bool.and_eq_true]at this;exact JP _ this.1.1
theorem Tx {i:Nat}{t:WS}(ht:t.dT)(h1:dM p (word (p.line i) 1))(h2:dM p (word (p.line i) 2))(hw:word (p.line i) 0=[109,111,118,101])(qv:p.typeOf (word (p.line i) 2)=p.typeOf (word (p.line i) 1)):
  (RP.cK p (p.line i) t).2=(p.there t (word (p.line i) 2)&&cy p t (word (p.line i) 1)):=by
 have Dh:(RP.cK p (p.line i) t).2=(p.there t (word (p.line i) 2)&&(cy p (p.now t (word (p.line i) 2) (left (word (p.line i) 2))) (word (p.line i) 1)||(word (p.line i) 0==[115,111,109,101]))):=rfl;rw[Dh,hw,show(([109,111,118,101]:B)==[115,111,109,101])=false by decide,Bool.or_false];unfold cy;by_cases B9:partOf (word (p.line i) 1)=115
 ·have e1:(!(partOf (word (p.line i) 1)==115))=false:=by rw[B9];rfl
  rw[e1,Bool.false_or,Bool.false_or,p.gR ht.len h2.fits];by_cases hx:p.ju (word (p.line i) 2) (p.ak (word (p.line i) 1)).1=true
  ·rw[jb hx];have hty1:p.j6 (word (p.line i) 1)=eH/\p.typeOf (word (p.line i) 1)=kA:=by
    have:=h1.type;unfold RP.typeOf at this⊢;rw[B9,ja (by decide),jb rfl]at this⊢;split at this
    ·rename_i e;exact⟨e,by rw[jb e]⟩
    ·exact absurd rfl this
   have GR:p.typeOf (word (p.line i) 2)=kA:=qv.trans hty1.2;have Ca:=pb (p:=p) (w:=word (p.line i) 2) (by rw[GR];exact D9);have lx:(p.ak (word (p.line i) 1)).1=2*(p.find (aj (word (p.line i) 1))).toNat:=by
    unfold RP.ak;rw[ja (by rw[B9];decide)];split<;>rfl
   have heq:(p.ak (word (p.line i) 2)).1=(p.ak (word (p.line i) 1)).1:=by
    unfold RP.ju at hx;rw[Ca]at hx;simp only[Bool.and_eq_true,decide_eq_true_eq]at hx;omega
   have Wq:partOf (word (p.line i) 2)=115:=by
    have hn98:¬partOf (word (p.line i) 2)=98:=fun e=>by
     have:(p.ak (word (p.line i) 2)).1=2*(p.find (aj (word (p.line i) 2))).toNat+1:=by unfold RP.ak;rw[jb e]
     omega
    have RO:(p.ak (word (p.line i) 2)).1=2*(p.find (aj (word (p.line i) 2))).toNat:=by
     unfold RP.ak;rw[ja hn98];split<;>rfl
    have X5:p.j6 (word (p.line i) 2)=eH:=by
     have:(p.find (aj (word (p.line i) 2))).toNat=(p.find (aj (word (p.line i) 1))).toNat:=by omega
     rw[<-hty1.1];unfold RP.j6;rw[this]
    unfold RP.typeOf at GR;rw[X5]at GR;rcases h2.part with e|e|e|e
    ·rw[e,ja (by decide),ja (by decide)]at GR;exact absurd GR (by decide)
    ·rw[e,jb (.inl rfl),ja yb]at GR;exact absurd GR (by decide)
    ·exact absurd e hn98
    ·exact e
   have sJ:left (word (p.line i) 2)=[104]:=by unfold left;rw[jb Wq]
   rw[sJ,show only [104] [119,104]=true by decide,Bool.and_true];cases T8:p.there t (word (p.line i) 2)
   ·rfl
   ·unfold RP.there RP.some at T8;rw[Ca,ja (by rw[GR];decide),dS,heq]at T8;split at T8
    ·rename_i ho;have:=(rl (ht.fe _).qi _).mp ho;rw[(rl (ht.fe _).qi [119,104]).mpr ⟨fun h=>absurd (this.1 h) (by decide),fun h=>absurd (this.2.1 h) (by decide),fun _=>by simp,fun h=>absurd (this.2.2.2 h) (by decide)⟩];rfl
    ·cases T8
  ·rw[ja hx]
 ·have e1:(!(partOf (word (p.line i) 1)==115))=true:=by simp[B9]
  rw[e1];rfl
theorem aF.M9 (h:aF text false p){i:Nat}(hb:p.body i){s:Nat->Nat}{t:WS}(ht:t.ak.length=24)(hr:Rel s t):Rel (p.lT.pass (p.lz i) s) (p.step (p.line i) t).1:=by
 have ax:(p.lz i).op=word (p.line i) 0:=rfl;have hm:=h.CY hb;have H:=fun f (hf:(behind (word (p.line i) 0) p.raw).1=f) k hk hc=>h.place hb hf k hk hc
 unfold dU.pass RP.step;rw[ax];simp only[lW,List.mem_cons,List.not_mem_nil,or_false]at hm;rcases hm with e|e|e|e|e|e|e|e|e|e|e|e|e|e|e|e|e|e
 ·have hf:(behind (word (p.line i) 0) p.raw).1=[105,110]:=by rw[e];rfl
  obtain⟨h1,t1⟩:=H _ hf 0 (by simp) (by rfl);rw[ic hf rfl];simp only[e];exact fF h1 (by rw[cL t1];exact int_ne) ht hr (by decide)
 ·have hf:(behind (word (p.line i) 0) p.raw).1=[105]:=by rw[e];rfl
  obtain⟨h1,t1⟩:=H _ hf 0 (by simp) (by rfl);rw[ic hf rfl];simp only[e];exact fF h1 (by rw[cL t1];exact int_ne) ht hr (by decide)
 ·have hf:(behind (word (p.line i) 0) p.raw).1=[105,105,105]:=by rw[e];rfl
  obtain⟨h1,t1⟩:=H _ hf 0 (by simp) (by rfl);rw[ic hf rfl];simp only[e];exact fF h1 (by rw[cL t1];exact int_ne) ht hr (by decide)
 ·have hf:(behind (word (p.line i) 0) p.raw).1=[105,105,105]:=by rw[e];rfl
  obtain⟨h1,t1⟩:=H _ hf 0 (by simp) (by rfl);rw[ic hf rfl];simp only[e];exact fF h1 (by rw[cL t1];exact int_ne) ht hr (by decide)
 ·have hf:(behind (word (p.line i) 0) p.raw).1=[105,105,105]:=by rw[e];rfl
  obtain⟨h1,t1⟩:=H _ hf 0 (by simp) (by rfl);rw[ic hf rfl];simp only[e];exact fF h1 (by rw[cL t1];exact int_ne) ht hr (by decide)
 ·have hf:(behind (word (p.line i) 0) p.raw).1=[105,105,105]:=by rw[e];rfl
  obtain⟨h1,t1⟩:=H _ hf 0 (by simp) (by rfl);rw[ic hf rfl];simp only[e];exact fF h1 (by rw[cL t1];exact int_ne) ht hr (by decide)
 ·simp only[e];exact hr
 ·simp only[e];exact hr
 ·simp only[e];exact hr
 ·simp only[e];exact hr
 ·have hf:(behind (word (p.line i) 0) p.raw).1=[112,105]:=by rw[e];rfl
  obtain⟨h1,t1⟩:=H _ hf 0 (by simp) (by rfl);rw[ic hf rfl];simp only[e];exact fF h1 (by rw[pf t1];exact D9) ht hr (by decide)
 ·have hf:(behind (word (p.line i) 0) p.raw).1=[105,112]:=by rw[e];rfl
  obtain⟨h1,t1⟩:=H _ hf 0 (by simp) (by rfl);rw[ic hf rfl];simp only[e];exact fF h1 (by rw[cL t1];exact int_ne) ht hr (by decide)
 ·simp only[e];exact hr
 ·have hf:(behind (word (p.line i) 0) p.raw).1=[111]:=by rw[e];rfl
  obtain⟨h1,t1⟩:=H _ hf 0 (by simp) (by rfl);rw[ic hf rfl];simp only[e];exact fF h1 (by rw[xq t1];exact yb) ht hr (by decide)
 ·have hf:(behind (word (p.line i) 0) p.raw).1=[100]:=by rw[e];rfl
  obtain⟨h1,t1⟩:=H _ hf 0 (by simp) (by rfl);rw[ic hf rfl];simp only[e];exact DI h1 ht hr
 ·have hf:(behind (word (p.line i) 0) p.raw).1=[109,109]:=by rw[e];rfl
  obtain⟨h1,t1⟩:=H _ hf 0 (by simp) (by rfl);obtain⟨h2,t2⟩:=H _ hf 1 (by simp) (by rfl);have:=PD ht hr h1 h2 e (BZ t2).2;rw[ic hf rfl,B0 hf rfl rfl];simp only[e];exact this
 ·have hf:(behind (word (p.line i) 0) p.raw).1=[111,112]:=by rw[e];rfl
  obtain⟨h1,t1⟩:=H _ hf 0 (by simp) (by rfl);obtain⟨h2,t2⟩:=H _ hf 1 (by simp) (by rfl);have:=S6 ht hr h1 h2 e (xq t1) (pf t2);rw[ic hf rfl,B0 hf rfl rfl];simp only[e];exact this
 ·simp only[e];exact hr
end
end Sq
namespace Sq
open Go Aux RefS RefT
section
variable {text:B} {p:RP}
theorem iF (fit:Nat)(x y:bD)(s:Nat->Nat):dO fit [x,y] s=(dO fit [x] s||dO fit [y] s):=by
 simp[dO]
theorem ix (a b:Bool):(!a|| !b)= !(a&&b):=by cases a<;>cases b<;>rfl
theorem aF.QX (h:aF text false p){i:Nat}(hb:p.body i){s:Nat->Nat}{t:WS}(ht:t.dT)(hr:Rel s t):p.lT.Eg (p.lz i) s= !(p.step (p.line i) t).2:=by
 have ax:(p.lz i).op=word (p.line i) 0:=rfl;have hm:=h.CY hb;have H:=fun f (hf:(behind (word (p.line i) 0) p.raw).1=f) k hk hc=>h.place hb hf k hk hc
 have one:∀{w:B},dM p w->p.typeOf w=mN->dO 2 [p.placeOf w] s= !p.there t w:=fun hw e=>yp ht hr hw (by rw[e];exact int_ne) (by rw[e];decide)
 have box:∀{w:B},dM p w->p.typeOf w=kA->dO 2 [p.placeOf w] s= !p.there t w:=fun hw e=>yp ht hr hw (by rw[e];exact D9) (by rw[e];decide)
 unfold dU.Eg RP.step;rw[ax];simp only[lW,List.mem_cons,List.not_mem_nil,or_false]at hm;rcases hm with e|e|e|e|e|e|e|e|e|e|e|e|e|e|e|e|e|e
 ·simp only[e];rfl
 ·simp only[e];rfl
 ·have hf:(behind (word (p.line i) 0) p.raw).1=[105,105,105]:=by rw[e];rfl
  obtain⟨h2,t2⟩:=H _ hf 1 (by simp) (by rfl);obtain⟨h3,t3⟩:=H _ hf 2 (by simp) (by rfl);rw[(zf hf).2.1,(zf hf).2.2,iF,one h2 (cL t2),one h3 (cL t3),ix];simp only[e];rfl
 ·have hf:(behind (word (p.line i) 0) p.raw).1=[105,105,105]:=by rw[e];rfl
  obtain⟨h2,t2⟩:=H _ hf 1 (by simp) (by rfl);obtain⟨h3,t3⟩:=H _ hf 2 (by simp) (by rfl);rw[(zf hf).2.1,(zf hf).2.2,iF,one h2 (cL t2),one h3 (cL t3),ix];simp only[e];rfl
 ·have hf:(behind (word (p.line i) 0) p.raw).1=[105,105,105]:=by rw[e];rfl
  obtain⟨h2,t2⟩:=H _ hf 1 (by simp) (by rfl);obtain⟨h3,t3⟩:=H _ hf 2 (by simp) (by rfl);rw[(zf hf).2.1,(zf hf).2.2,iF,one h2 (cL t2),one h3 (cL t3),ix];simp only[e];rfl
 ·have hf:(behind (word (p.line i) 0) p.raw).1=[105,105,105]:=by rw[e];rfl
  obtain⟨h2,t2⟩:=H _ hf 1 (by simp) (by rfl);obtain⟨h3,t3⟩:=H _ hf 2 (by simp) (by rfl);rw[(zf hf).2.1,(zf hf).2.2,iF,one h2 (cL t2),one h3 (cL t3),ix];simp only[e];rfl
 ·have hf:(behind (word (p.line i) 0) p.raw).1=[105]:=by rw[e];rfl
  obtain⟨h1,t1⟩:=H _ hf 0 (by simp) (by rfl);rw[ic hf rfl,one h1 (cL t1)];simp only[e];rfl
 ·have hf:(behind (word (p.line i) 0) p.raw).1=[105,78,78]:=by rw[e];rfl
  obtain⟨h1,t1⟩:=H _ hf 0 (by simp) (by rfl);rw[ic hf rfl,one h1 (cL t1)];simp only[e];rfl
 ·have hf:(behind (word (p.line i) 0) p.raw).1=[105]:=by rw[e];rfl
  obtain⟨h1,t1⟩:=H _ hf 0 (by simp) (by rfl);rw[ic hf rfl,one h1 (cL t1)];simp only[e];rfl
 ·have hf:(behind (word (p.line i) 0) p.raw).1=[111,78,78]:=by rw[e];rfl
  obtain⟨h1,t1⟩:=H _ hf 0 (by simp) (by rfl);rw[ic hf rfl,DR ht hr h1 (xq t1)];simp only[e];rfl
 ·have hf:(behind (word (p.line i) 0) p.raw).1=[112,105]:=by rw[e];rfl
  obtain⟨h1,t1⟩:=H _ hf 0 (by simp) (by rfl);obtain⟨h2,t2⟩:=H _ hf 1 (by simp) (by rfl);rw[ic hf rfl,B0 hf rfl rfl,one h2 (cL t2),Fa ht hr h1,ix];simp only[e];rfl
 ·have hf:(behind (word (p.line i) 0) p.raw).1=[105,112]:=by rw[e];rfl
  obtain⟨h2,t2⟩:=H _ hf 1 (by simp) (by rfl);rw[B0 hf rfl rfl,box h2 (pf t2)];simp only[e];rfl
 ·have hf:(behind (word (p.line i) 0) p.raw).1=[112,105]:=by rw[e];rfl
  obtain⟨h1,t1⟩:=H _ hf 0 (by simp) (by rfl);obtain⟨h2,t2⟩:=H _ hf 1 (by simp) (by rfl);rw[ic hf rfl,B0 hf rfl rfl,iF 2 (p.placeOf (word (p.line i) 1)),box h1 (pf t1),one h2 (cL t2),ix];simp only[e];rfl
 ·simp only[e];rfl
 ·have hf:(behind (word (p.line i) 0) p.raw).1=[100]:=by rw[e];rfl
  obtain⟨h1,t1⟩:=H _ hf 0 (by simp) (by rfl);rw[ic hf rfl,Fa ht hr h1];simp only[e];rfl
 ·have hf:(behind (word (p.line i) 0) p.raw).1=[109,109]:=by rw[e];rfl
  obtain⟨h1,t1⟩:=H _ hf 0 (by simp) (by rfl);obtain⟨h2,t2⟩:=H _ hf 1 (by simp) (by rfl);have:=Tx ht h1 h2 e (BZ t2).2;rw[ic hf rfl,B0 hf rfl rfl,Tt ht hr h2,Fa ht hr h1,ix,<-this];simp only[e];rfl
 ·have hf:(behind (word (p.line i) 0) p.raw).1=[111,112]:=by rw[e];rfl
  obtain⟨h2,t2⟩:=H _ hf 1 (by simp) (by rfl);have Dh:(RP.cK p (p.line i) t).2=(p.there t (word (p.line i) 2)&&(cy p (p.now t (word (p.line i) 2) (left (word (p.line i) 2))) (word (p.line i) 1)||(word (p.line i) 0==[115,111,109,101]))):=rfl;have Kl:(RP.cK p (p.line i) t).2=p.there t (word (p.line i) 2):=by
   rw[Dh,e,show(([115,111,109,101]:B)==[115,111,109,101])=true by decide,Bool.or_true,Bool.and_true]
  rw[B0 hf rfl rfl,box h2 (pf t2),<-Kl];simp only[e];rfl
 ·simp only[e];rfl
def RP.iq (p:RP)(wrong:Nat->Bool):Nat->Nat->Int
 |0,_=> -1
 |m+1,i=>if(!isLet (p.line i)&& !ao (p.line i)&&wrong i)=true then i else RP.iq p wrong m (i+1)
theorem AG {L:List WS}{wrong:Nat->Bool}(hw:∀i,p.body i->((lw L i).known&& !(p.step (p.line i) (lw L i)).2)=wrong i)(hl:∀i,i<p.lines.length->isLet (p.line i)=true->(lw L i).known=false):
  ∀(m i:Nat),i+m<=p.lines.length->p.cW L m i=p.iq wrong m i
 |0,_,_=>rfl
 |m+1,i,hi=>by
  rw[RP.cW,RP.iq,AG hw hl m (i+1) (by omega)];cases h1:isLet (p.line i)
  ·cases h2:ao (p.line i)
   ·rw[hw i ⟨by omega,h1,h2⟩];rfl
   ·have yW:word (p.line i) 0=aR:=by simpa [ao]using h2
    rw[step_block p yW];simp
  ·rw[hl i (by omega) h1];simp
theorem aF.OL (h:aF text false p){L:List WS}(hL:p.iT L){i:Nat}(hi:i<p.lines.length)(hl:isLet (p.line i)=true):(lw L i).known=false:=by
 obtain⟨hR,hC⟩:=h.settled hL;have hz:p.ed (i+1)=0:=by
  have Kn:ao (p.line i)=false:=by
   have:word (p.line i) 0=cx:=by simpa [isLet]using hl
   simp[ao,this];decide
  rw[p.dv,Kn];cases hc:p.ed i with
  |zero=>rfl
  |succ n=>have:=h.pP hi (by omega);rw[hl]at this;cases this
 have:=(hR.least _ (h.sU (h.vC hC)) i).1;cases hk:(lw L i).known
 ·rfl
 ·have:=this hk;unfold RP.spread at this;rw[jb hz]at this;cases this
theorem aF.QV (h:aF text false p){L:List WS}(hL:p.iT L){E:Nat->WS}(hE:mS p E)(hl:DX p E){wrong:Nat->Bool}(hw:∀i,p.body i->wrong i=((E (p.aJ i)).known&& !(p.step (p.line i) (p.along E i)).2))
  (zn:∀i,p.body i->∀s t:WS,s.ak.length=24->t.ak.length=24->(∀k c,c∈s.at k↔c∈t.at k)->(p.step (p.line i) s).2=(p.step (p.line i) t).2):
  p.cW L p.lines.length 0=p.iq wrong p.lines.length 0:=by
 obtain⟨hR,hC⟩:=h.settled hL;refine AG (fun i hb=> ?_) (fun i hi hl=>h.OL hL hi hl) _ 0 (by omega);rw[hw i hb];obtain⟨h1,h2⟩:=h.same hL hE hl hb;cases hk:(lw L i).known
 ·cases GK:(E (p.aJ i)).known
  ·rfl
  ·have:=h1.mpr GK;rw[hk]at this;cases this
 ·rw[h1.mp hk,zn i hb _ _ (hC.len i) (fG hE.len i) (h2 hk)]
end
end Sq
namespace Sq
open Go Aux RefS RefT
def Qp (s t:WS):Prop:=∀k c,c∈s.at k↔c∈t.at k
section
variable {text:B} {p:RP}
theorem Bv {s s':B}(h:∀c,c∈s↔c∈s')(t:B):only s t=only s' t:=by
 rw[jX];simp only[only,List.all_eq_true];exact⟨fun x c hc=>x c ((h c).mpr hc),fun x c hc=>x c ((h c).mp hc)⟩
theorem sX {s t:WS}(h:Qp s t)(u:B):∀m k,dS s u m k=dS t u m k
 |0,_=>rfl
 |m+1,k=>by rw[dS,dS,Bv (h k),sX h u m]
theorem zd {s t:WS}(h:Qp s t)(w:B):p.there s w=p.there t w:=sX h _ _ _
theorem rJ {s t:WS}(h:Qp s t)(w:B):cy p s w=cy p t w:=by
 unfold cy;rw[Bv (h _)]
theorem CF {i:Nat}(hf:p.dI (p.line i)){s t:WS}(hs:s.ak.length=24)(ht:t.ak.length=24)(h:Qp s t):(p.step (p.line i) s).2=(p.step (p.line i) t).2:=by
 unfold RP.step
 repeat' split
 all_goals first
  |rfl
  |(simp only[zd h,rJ h];done)
  |skip
 rename_i hw;have h2:=hf.2 hw;have hn:Qp (p.now s (word (p.line i) 2) (left (word (p.line i) 2))) (p.now t (word (p.line i) 2) (left (word (p.line i) 2))):=fun k c=>by
  rw[p.gR hs h2,p.gR ht h2];split
  ·rfl
  ·exact h k c
 unfold RP.cK;simp only[zd h,rJ hn]
theorem aF.JY (h:aF text false p){L:List WS}(hL:p.iT L){E:Nat->WS}(hE:mS p E)(hl:DX p E){wrong:Nat->Bool}(hw:∀i,p.body i->wrong i=((E (p.aJ i)).known&& !(p.step (p.line i) (p.along E i)).2)):
  p.cW L p.lines.length 0=p.iq wrong p.lines.length 0:=
 h.QV hL hE hl hw fun i hb _ _ hs ht e=>CF (h.dI i hb.1) hs ht e
end
end Sq
namespace Sq
open Go Aux RefS RefT
section
variable {text:B} {p:RP}
theorem aF.Pc (h:aF text false p){i:Nat}(hb:p.body i)(hm:word (p.line i) 0=bT){s:Nat->Nat}{t:WS}(ht:t.ak.length=24)(hr:Rel s t):
  Rel (xe 4 [(p.lz i).w 0] s) (p.eF (p.line i) t 1)/\Rel (xe 2 [(p.lz i).w 0] s) (p.eF (p.line i) t 2):=by
 have hf:(behind (word (p.line i) 0) p.raw).1=[111,78,78]:=by rw[hm];rfl
 obtain⟨h1,t1⟩:=h.place hb hf 0 (by simp) (by rfl);have ho:=xq t1;rw[ic hf rfl];have e1:p.eF (p.line i) t 1=p.now t (word (p.line i) 1) [110]:=by
  unfold RP.eF;rw[ja (fun x=>absurd x.2 (by decide)),jb ⟨hm,rfl⟩]
 have e2:p.eF (p.line i) t 2=p.now t (word (p.line i) 1) [119]:=by
  unfold RP.eF;rw[jb ⟨hm,rfl⟩]
 rw[e1,e2];exact⟨fF h1 (by rw[ho];exact yb) ht hr (by decide),fF h1 (by rw[ho];exact yb) ht hr (by decide)⟩
theorem Pd {i k:Nat}{t:WS}(hm:¬word (p.line i) 0=bT):p.eF (p.line i) t k=t:=by
 unfold RP.eF;rw[ja (fun x=>hm x.1),ja (fun x=>hm x.1)]
theorem PA:Rel (fun _=>1) j0:=fun k hk=>by
 have:j0.at k=[45]:=by
  unfold WS.at j0;simp only[List.getD_eq_getElem?_getD,List.getElem?_replicate,hk,if_true];rfl
 rw[this];rfl
theorem Ul {a b c:B}(h:∀x,x∈c↔x∈a\/x∈b):bitsOf c=bitsOf a|||bitsOf b:=by
 unfold bitsOf;simp only[h];by_cases h1:(45:UInt8)∈a<;>by_cases h2:(119:UInt8)∈a<;>by_cases h3:(110:UInt8)∈a<;>by_cases h4:(104:UInt8)∈a<;>
 by_cases g1:(45:UInt8)∈b<;>by_cases g2:(119:UInt8)∈b<;>by_cases g3:(110:UInt8)∈b<;>by_cases g4:(104:UInt8)∈b<;>simp[h1,h2,h3,h4,g1,g2,g3,g4]
def fJ (v:Nat):B:=(if v.testBit 0 then [45]else [])++(if v.testBit 1 then [119]else [])++(if v.testBit 2 then [110]else [])++(if v.testBit 3 then [104]else [])
theorem D7:∀v,v<16->bitsOf (fJ v)=v:=by decide
theorem Gh:∀v,v<16->dT (fJ v):=by
 intro v hv;have:∀v,v<16->(fJ v).Nodup/\∀c∈fJ v,c∈eE:=by decide
 exact⟨(this v hv).1,(this v hv).2⟩
theorem Uk (s:B):bitsOf s<16:=by
 unfold bitsOf;repeat' split
 all_goals decide
end
end Sq
namespace FlwT
open Go Sq Aux FlwA FlwB FlwC FlwD FlwE FlwF FlwG FlwH FlwI FlwJ FlwK FlwM FlwO FlwQ FlwS
def toQ (x:bD):Nat×Nat:=(x.loc,iz x.part)
def Qm (x:bD):Prop:=x.part=0\/x.part=97\/x.part=98\/x.part=115
theorem xa {c:UInt8}:iz c=2↔c=98:=by
 unfold iz;constructor
 ·intro h;split at h
  ·omega
  ·split at h
   ·assumption
   ·split at h<;>omega
 ·intro h;subst h;rfl
theorem fx {c:UInt8}:iz c=3↔c=115:=by
 unfold iz;constructor
 ·intro h;split at h
  ·omega
  ·split at h
   ·omega
   ·split at h
    ·assumption
    ·omega
 ·intro h;subst h;rfl
theorem DF {x:bD}(h:Qm x):iz x.part=0↔x.part=0:=by
 rcases h with e|e|e|e<;>rw[e]<;>decide
theorem xj (x:bD):ah (toQ x)=x.slot:=by
 unfold ah bD.slot toQ;by_cases h:x.part=98
 ·rw[jb h,jb (xa.mpr h)]
 ·rw[ja h,ja (fun e=>h (xa.mp e))]
structure Ag (s:List Nat)(f:Nat->Nat):Prop where
 len:s.length=24
 eq:∀k,k<24->s.getD k 0=f k
theorem Ag.self {s:List Nat}(h:s.length=24):Ag s (fun k=>s.getD k 0):=⟨h,fun _ _=>rfl⟩
theorem Qt {s:List Nat}{f:Nat->Nat}(h:Ag s f)(i v:Nat):Ag (s.set i v) (fun k=>if k=i then v else f k):=
 ⟨by simpa using h.len,fun k hk=>by
  rw[dA,h.len];by_cases e:i=k
  ·rw[jb ⟨e,hk⟩,jb e.symm]
  ·rw[ja (fun x=>e x.1),ja (fun x=>e x.symm)];exact h.eq k hk⟩
theorem s8 (m:Nat):∀(ps:List bD) {s:List Nat} {f:Nat->Nat},Ag s f->Ag (gS m (ps.map toQ) s) (xe m ps f)
 |[],_,_,h=>h
 |x::ps,s,f,h=>by
  have:=s8 m ps (s:=s.set (ah (toQ x)) m) (f:=fun k=>if k=x.slot then m else f k) (by rw[xj];exact Qt h _ _);exact this
theorem zB:∀(ps:List bD) {s:List Nat} {f:Nat->Nat},Ag s f->Ag (dC (ps.map toQ) s) (rG ps f)
 |[],_,_,h=>h
 |x::ps,s,f,h=>by
  have e:(if(toQ x).2=3 then 8 else 1)=(if x.part=115 then 8 else 1:Nat):=by
   by_cases h3:x.part=115
   ·rw[jb h3,jb (show(toQ x).2=3 from fx.mpr h3)]
   ·rw[ja h3,ja (show¬(toQ x).2=3 from fun y=>h3 (fx.mp y))]
  have:=zB ps (s:=s.set (ah (toQ x)) (if(toQ x).2=3 then 8 else 1)) (f:=fun k=>if k=x.slot then(if x.part=115 then 8 else 1)else f k) (by rw[xj,e];exact Qt h _ _);exact this
theorem iW (fit:Nat)(ps:List bD)(s:List Nat):bA fit (ps.map toQ) s=dO fit ps (fun k=>s.getD k 0):=by
 unfold bA dO;rw[List.any_map];congr 1
 funext x
 simp only[Function.comp,xj,jv]
structure xw (q:QP)(P:dU):Prop where
 pair:∀n,q.bB n=2↔P.bB n=cm
 opt:∀n,q.bB n=3↔P.bB n=eH
section
variable {q:QP} {P:dU}
theorem pD (h:xw q P){x:bD}(hx:Qm x):QP.ae q (toQ x)=(P.fL x).map toQ:=by
 unfold QP.ae dU.fL;by_cases hc:x.part=0/\P.bB x.loc=cm
 ·rw[jb hc,jb ⟨(DF hx).mpr hc.1,(h.pair _).mpr hc.2⟩];rfl
 ·rw[ja hc,ja (fun e=>hc ⟨(DF hx).mp e.1,(h.pair _).mp e.2⟩)];rfl
theorem vM (h:xw q P){x:bD}(hx:Qm x):q.bt (toQ x)=3↔P.kind x=eH:=by
 unfold QP.bt dU.kind toQ;have TW:¬kA=eH:=by decide
 rcases hx with e|e|e|e<;>rw[e]<;>simp only
 ·rw[ja (by decide),ja (by decide)];exact h.opt _
 ·rw[jb (by decide),jb (by decide)];exact⟨fun x=>absurd x (by decide),fun x=>absurd x TW⟩
 ·rw[jb (by decide),jb (by decide)];exact⟨fun x=>absurd x (by decide),fun x=>absurd x TW⟩
 ·rw[jb (by decide),jb (by decide)];exact⟨fun x=>absurd x (by decide),fun x=>absurd x TW⟩
structure Ab (l:ab)(m:lu):Prop where
 op:l.op<23
 word:m.op=bJ l.op
 places:l.places=m.places.map toQ
 fit:∀j,Qm (m.w j)
theorem Ab.w {l:ab}{m:lu}(h:Ab l m)(j:Nat):l.places.getD j (0,0)=toQ (m.w j):=by
 rw[h.places,lu.w,jA,jA,jJ];cases m.places[j]?<;>rfl
theorem LM:∀op:Fin 23,(bJ op.val∈([[115,101,116],[105,110],[97,100,100],[115,117,98],[109,117,108],[100,105,118],[110,101,119],[108,111,97,100]]:List B)↔(oQ op.val=true/\¬op.val=14))/\(bJ op.val=[109,111,118,101]↔op.val=12)/\(bJ op.val=[110,111,110,101]↔op.val=13)/\(bJ op.val=[115,111,109,101]↔op.val=14)/\(bJ op.val=[100,114,111,112]↔op.val=15):=by decide
theorem My (h:xw q P){l:ab}{m:lu}(hl:Ab l m){s:List Nat}(hs:s.length=24):Ag (bm q l s) (P.pass m (fun k=>s.getD k 0)):=by
 obtain⟨h1,h2,h3,h4,h5⟩:=LM ⟨l.op,hl.op⟩;simp only at h1 h2 h3 h4 h5;have Di:=Ag.self hs;unfold bm dU.pass cG;rw[hl.word,hl.w 0,hl.w 1];have one:∀x,[toQ x]=[x].map toQ:=fun _=>rfl
 by_cases e14:l.op=14
 ·rw[jb (show oQ l.op=true by rw[e14];rfl),ja (show¬l.op=12 by omega),jb e14,ja (fun x=>(h1.mp x).2 e14),ja (fun x=>by have:=h2.mp x;omega),ja (fun x=>by have:=h3.mp x;omega),jb (h4.mpr e14),one,one];exact s8 _ _ (zB _ Di)
 ·by_cases ep:oQ l.op=true
  ·have e12:¬l.op=12:=fun e=>by rw[e]at ep;exact absurd ep (by decide)
   rw[jb ep,ja e12,ja e14,jb (h1.mpr ⟨ep,e14⟩),one];exact s8 _ _ Di
  ·rw[ja ep,ja (fun x=>ep (h1.mp x).1)];by_cases e12:l.op=12
   ·rw[jb e12,jb e12,jb (h2.mpr e12),pD h (hl.fit 0),pD h (hl.fit 1)];have em:dn q (toQ (m.w 1)) s=if P.kind (m.w 1)=eH then s.getD (m.w 1).slot 0 else 2:=by
     unfold dn;rw[xj];by_cases hk:P.kind (m.w 1)=eH
     ·rw[jb hk,jb ((vM h (hl.fit 1)).mpr hk)]
     ·rw[ja hk,ja (fun x=>hk ((vM h (hl.fit 1)).mp x))]
    rw[em];exact s8 _ _ (zB _ Di)
   ·rw[ja e12,ja e12,ja e14,ja (fun x=>e12 (h2.mp x))];by_cases e13:l.op=13
    ·rw[jb e13,jb (h3.mpr e13),one];exact s8 _ _ Di
    ·rw[ja e13,ja (fun x=>e13 (h3.mp x)),ja (fun x=>e14 (h4.mp x))];by_cases e15:l.op=15
     ·rw[jb e15,jb (h5.mpr e15),pD h (hl.fit 0)];exact zB _ Di
     ·rw[ja e15,ja (fun x=>e15 (h5.mp x))];exact Di
theorem Gf:∀op:Fin 23,(bJ op.val∈([[97,100,100],[115,117,98],[109,117,108],[100,105,118]]:List B)↔(op.val=3\/op.val=4\/op.val=5\/op.val=6))/\(bJ op.val∈([[111,117,116],[105,102],[101,110,100]]:List B)↔(op.val=8\/op.val=19\/op.val=22))/\(bJ op.val=[110,101,119]↔op.val=9)/\
  ((bJ op.val=[108,111,97,100]\/bJ op.val=[115,111,109,101])↔(op.val=10\/op.val=14))/\(bJ op.val=[115,116,111,114,101]↔op.val=11)/\(bJ op.val=[109,111,118,101]↔op.val=12)/\(bJ op.val=[100,114,111,112]↔op.val=15)/\(bJ op.val=[109,97,116,99,104]↔op.val=20):=by decide
theorem BN (x:bD)(s:List Nat):lA (toQ x) s=BL x (fun k=>s.getD k 0):=by
 unfold lA BL;have:((toQ x).2==3)=(x.part==115):=by
  rw[jX,beq_iff_eq,beq_iff_eq];exact fx
 rw[this];congr 1;exact iW 10 [x] s
theorem PT (h:xw q P){x:bD}(hx:Qm x)(s:List Nat):gU q (toQ x) s=P.stuck x (fun k=>s.getD k 0):=by
 unfold gU dU.stuck;by_cases hk:P.kind x=eH
 ·rw[jb hk,jb ((vM h hx).mpr hk)];exact iW 6 [x] s
 ·rw[ja hk,ja (fun y=>hk ((vM h hx).mp y)),pD h hx];exact iW 2 _ s
theorem oe {α:Type}{a b:Prop} [Decidable a] [Decidable b](h:a↔b){x y x' y':α}(hx:x=x')(hy:y=y'):(if b then x else y)=(if a then x' else y'):=by
 subst hx hy;by_cases hb:b
 ·rw[jb hb,jb (h.mpr hb)]
 ·rw[ja hb,ja (fun e=>hb (h.mp e))]
theorem NV (h:xw q P){l:ab}{m:lu}(hl:Ab l m)(s:List Nat):aM q l s=P.Eg m (fun k=>s.getD k 0):=by
 obtain⟨h1,h2,h3,h4,h5,h6,h7,h8⟩:=Gf ⟨l.op,hl.op⟩;simp only at h1 h2 h3 h4 h5 h6 h7 h8;unfold aM dU.Eg ab.at;rw[hl.word,hl.w 0,hl.w 1,hl.w 2];refine oe h1 (iW 2 [_,_] s) (oe h2 (iW 2 [_] s) (oe h3 ?_ (oe h4 (iW 2 [_] s) (oe h5 (iW 2 [_,_] s) (oe h6 ?_ (oe h7 (BN _ s) (oe h8 (iW 6 [_] s) rfl)))))))
 ·rw[BN];congr 1;exact iW 2 [_] s
 ·rw[BN,PT h (hl.fit 1)]
end
end FlwT
namespace FlwU
open Go Sq
def yA (c:Nat->Nat)(q:QP):Prop:=∀j,∀l∈q.blocks.getD j [],c l.num=j+1
theorem GX (c:Nat->Nat):yA c QP.empty:=fun j l hl=>by simp[QP.empty]at hl
theorem FM {c:Nat->Nat}{q:QP}(h:yA c q):yA c q.addBlock:=fun j l hl=>by
 by_cases hj:j<q.blocks.length
 ·have:q.addBlock.blocks.getD j []=q.blocks.getD j []:=by simp[QP.addBlock,List.getD_eq_getElem?_getD,List.getElem?_append,hj]
  rw[this]at hl;exact h j l hl
 ·have:q.addBlock.blocks.getD j []=[]:=by
   simp only[QP.addBlock,List.getD_eq_getElem?_getD,List.getElem?_append,if_neg hj];cases h2:j-q.blocks.length with
   |zero=>rfl
   |succ n=>rfl
  rw[this]at hl;cases hl
theorem JB {c:Nat->Nat}{q:QP}(h:yA c q){l:ab}{n:Nat}(hn:q.blocks.length=n+1)(hc:c l.num=n+1):yA c (q.addLine l)/\(q.addLine l).blocks.length=n+1:=by
 have ec:q.blocks≠[]:=by intro e;rw[e]at hn;simp at hn
 have hD:q.blocks.dropLast.length=n:=by simp[hn]
 have hg:q.blocks.getLastD []=q.blocks.getD n []:=by
  rw[List.getLastD_eq_getLast?,List.getLast?_eq_getElem?,hn,jA];rfl
 refine⟨fun j x hx=> ?_,by simp[QP.addLine,hD]⟩;by_cases hj:j<n
 ·have:(q.addLine l).blocks.getD j []=q.blocks.getD j []:=by
   simp only[QP.addLine,List.getD_eq_getElem?_getD];rw[jg (by omega),List.getElem?_dropLast,jb (by omega)]
  rw[this]at hx;exact h j x hx
 ·by_cases e:j=n
  ·subst e;have:(q.addLine l).blocks.getD j []=q.blocks.getD j []++[l]:=by
    simp only[QP.addLine,List.getD_eq_getElem?_getD];rw[jf (by omega),hD,Nat.sub_self];simp only[List.getElem?_cons_zero,Option.getD_some];rw[hg,jA]
   rw[this]at hx;rcases List.mem_append.mp hx with hx|hx
   ·exact h j x hx
   ·rw[jI.mp hx];exact hc
  ·have:(q.addLine l).blocks.getD j []=[]:=by
    rw[jA,jG (by simp[QP.addLine,hD];omega)];rfl
   rw[this]at hx;cases hx
theorem zT (c:Nat->Nat)(nb:Nat):∀(S:List (Nat×List B)) (i:Nat) (q0 q:QP),bc nb S i q0=(q,none)->
  (∀k x,S[k]?=some x->c (i+k+1)=c (i+k)+(if x.1=1 then 1 else 0))->(∀k x,S[k]?=some x->¬x.1=0->¬x.1=1->1<=c (i+k))->q0.blocks.length=c i->yA c q0->yA c q
 |[],i,q0,q,h,_,_,_,hI=>by simp only[bc,Prod.mk.injEq,and_true]at h;rw[<-h];exact hI
 |x::S,i,q0,q,h,hc,hp,hl,hI=>by
  have h0:=hc 0 x rfl;have tl:∀k y,S[k]?=some y->c (i+1+k+1)=c (i+1+k)+(if y.1=1 then 1 else 0):=fun k y hy=>by
   have:=hc (k+1) y (by simpa using hy);rw[show i+1+k=i+(k+1) by omega];exact this
  have Cr:∀k y,S[k]?=some y->¬y.1=0->¬y.1=1->1<=c (i+1+k):=fun k y hy=>by
   have:=hp (k+1) y (by simpa using hy);rw[show i+1+k=i+(k+1) by omega];exact this
  rw[bc]at h;simp only[Nat.add_zero]at h0;by_cases e0:x.1=0
  ·rw[jb e0]at h;rw[ja (by omega)]at h0;split at h
   ·simp at h
   ·exact zT c nb S (i+1) _ q h tl Cr (by simpa [QP.addLocal]using hl.trans (by omega)) hI
  ·rw[ja e0]at h;by_cases e1:x.1=1
   ·rw[jb e1]at h;rw[jb e1]at h0;exact zT c nb S (i+1) _ q h tl Cr (by simp[QP.addBlock];omega) (FM hI)
   ·rw[ja e1]at h;rw[ja e1]at h0;have h1:=hp 0 x rfl e0 e1;simp only[Nat.add_zero]at h1;split at h
    ·simp at h
    ·rename_i l _;obtain⟨a1,a2⟩:=JB (l:={l with num:=i}) hI (n:=c i-1) (by omega) (by show c i=_;omega);exact zT c nb S (i+1) _ q h tl Cr (by rw[a2];omega) a1
theorem yQ {α:Type}(g:α->Nat):∀(L:List (List α)) (d j:Nat),(∀j,∀l∈L.getD j [],g l=d+j)->L.getD j []=L.flatten.filter (fun l=>g l==d+j)
 |[],d,j,_=>by simp
 |b::L,d,j,h=>by
  have hb:∀l∈b,g l=d:=fun l hl=>by simpa using h 0 l (by simpa using hl)
  have hL:∀j,∀l∈L.getD j [],g l=d+1+j:=fun j l hl=>by
   have:=h (j+1) l (by simpa using hl);omega
  rw[List.flatten_cons,List.filter_append];cases j with
  |zero=>
   have e1:b.filter (fun l=>g l==d+0)=b:=List.filter_eq_self.mpr fun l hl=>by simp[hb l hl]
   have e2:L.flatten.filter (fun l=>g l==d+0)=[]:=List.filter_eq_nil_iff.mpr fun l hl=>by
    obtain⟨c,hc,YQ⟩:=List.mem_flatten.mp hl;obtain⟨k,hk,rfl⟩:=List.getElem_of_mem hc;have:=hL k l (by simpa [hk]using YQ);simp;omega
   rw[e1,e2];simp
  |succ j=>
   have e1:b.filter (fun l=>g l==d+(j+1))=[]:=List.filter_eq_nil_iff.mpr fun l hl=>by simp[hb l hl]
   have:=yQ g L (d+1) j hL;rw[e1,List.nil_append,List.getD_cons_succ,this];congr 1
   funext l
   rw[show d+1+j=d+(j+1) by omega]
end FlwU
end Go.Proofs.YtmlgajhhnojdjaaGreatDoor

import Derived.Test.YtmlgajhhnojdjaaGreatDoorRBE
namespace Go.Proofs.YtmlgajhhnojdjaaGreatDoor
namespace Mac
open Go Go.RowKit Sq Aux PrjJ PrjK PrjL PrjM Go.Proofs.YtmlgajhhnojdjaaGreatDoor.Own RefRa
def ph (m:RM)(c:UInt8)(n:Int):B:=if m.trace=[]then c::su n else 32::c::su n
def RM.note (m:RM)(c:UInt8)(n:Int):RM:={m with trace:=m.trace++ph m c n}
theorem F6 (n:Int)(hn:aO n):(su n).length<=20:=by
 unfold aO at hn;unfold su;have h:(pA n.natAbs).length<=19:=Ay 18 _ (by omega);split
 ·simp only[List.length_cons];omega
 ·omega
theorem Vd:(Tryz.prog.info? 5).map (fun i=>(i.zero,i.size,i.bytes))=some (some (.int .u8 0),1,1):=by kernel_rfl
theorem No {s:ByteArray}{j:Nat}(h:j<s.size):s.toList.take (j+1)=s.toList.take j++[s[j]]:=by
 have hl:j<s.toList.length:=by rw[length_toList];exact h
 rw[List.take_add_one,jB hl,getElem_toList s j h];rfl
section
variable {w0 w w1 w2 w3:World} {x:Nat} {f:Fx} {m:RM}
set_option maxRecDepth 20000 in
set_option maxHeartbeats 2000000 in
theorem gd (h:cd w0 x f w m)(c:UInt8)(n:Int)(hn:aO n)(hl:m.trace.length<=100000000):
  Calls Tryz.prog 152 #[.pointer (some ⟨x,0,none⟩),.string (bs [c]),.int .i64 n] w fun e w'=>e=.returned (.tuple #[])/\cd w0 x f w' (m.note c n):=by
 obtain⟨i,hi,A1,Ez,xX⟩:=info_parts Vd;have KD:=fun w'=>F8 n w' hn.1 hn.2
 have hd:=F6 n hn;obtain⟨s,hs⟩:∃s,s=bs (ph m c n):=⟨_,rfl⟩;have ly:s.size<=22:=by rw[hs,dR];unfold ph;split<;>simp<;>omega
 have HS:Hid (s.toList=ph m c n):=by rw[hs,Hid,aE]
 have hD:(su n).length<=20:=hd;by_cases ht:m.trace=[]
 ·have lx:bs [c]++bs (su n)=s:=by rw[hs,ph,jb ht];exact AF (by rw[eJ,aE,aE];rfl)
  have h0:¬(0:Int)<m.trace.length:=by rw[ht];simp
  clear hs hd;go_enter Tryz.func152,Tryz.ntmps152
  go_wp2_with (go_at_call 191;refine(KD _).mono ?_;rintro e w1 ⟨rfl,aw⟩;obtain⟨vb,vt,hV⟩:=h.below aw;obtain⟨b,cap,rfl⟩:=vU hV.trace;obtain⟨c0,c1,c2,c3,c4,c5,c6,c7,c8,c9⟩:=hV.facts)
  have HV:Hid (cd w0 x f w1 m):=⟨_,_,hV⟩;clear hV c0 c1 c2 c3 c4 c5 c6 c7 c8 c9 aw h;go_loopw [7] (fun v4 wr=>∃(j:Nat),j<=s.size/\v4=.int .i64 j/\Hid (cd w0 x f wr {m with trace:=m.trace++s.toList.take j})) (fun i _=>s.size-(intOf i).toNat)
  case atStart=>exact⟨0,jQ _,rfl,by simpa [Hid]using HV.out⟩
  case round=>
   obtain⟨j,hj,rfl,HM⟩:=hrel;clear HV;by_cases aL:j<s.size
   ·obtain⟨vb,vt,hV⟩:=HM.out;have hlt0:=hV.lt;have qP:=hV.base;have hlen:({m with trace:=m.trace++s.toList.take j}:RM).trace.length<=100000022:=by simp only[List.length_append,List.length_take];omega
    generalize hm:({m with trace:=m.trace++s.toList.take j}:RM)=m' at*;have HE:Hid (_=_):=hm;clear hm HM;have lf:bO w0 x f wr.drew m' vb vt:=hV.below ((Below.refl _ _).drew);obtain⟨c0,c1,c2,c3,c4,c5,c6,c7,c8,c9⟩:=hV.facts;have aY:Below wr.drew.heap.size wr.drew (wr.drew.alloc (.cells #[.int .u8 (s[j].toNat:Nat)] 5)):=(Below.refl _ _).alloc (jC _) _;have HA:=lf.below aY;obtain⟨a0,a1,a2,a3,a4,a5,a6,a7,a8,a9⟩:=HA.facts;have qu:w0.heap.size<=(wr.drew.alloc (.cells #[.int .u8 (s[j].toNat:Nat)] 5)).heap.size:=by have:=HA.lt;omega
    go_upto_region 6 with fail
    go_region_law (refine rD (by rfl) _ _ _ (by rfl) w0.heap.size 5 i (.int .u8 0) 1 1 Tryz.underlying93 hi A1 Ez xX (by rfl) (by decide) vt _ _ (by rfl) HA.trace wr.heap.size [.int .u8 (s[j].toNat:Nat)] (by rfl) jD (by rfl) (by intro u' hu;simp at hu;subst hu;rfl) (by decide) (by omega) qu ?_;intro g4 c4' w4 hown4 hgrow4 hat4 hlt4;obtain⟨gK,N9⟩:=HA.Mw hown4 hgrow4;have rf:w4.frozen? ⟨x,151,none⟩=false:=frozen_of_heap gK 151;have r5:w4.cell? ⟨x,151,none⟩=some vt:=(by rw[cell_of_heap gK,List.getElem?_toArray];exact HA.len.jr (f:=f) (vb:=vb) (vt:=vt) 3))
    all_goals go_wp2_with fail
    all_goals
     go_roundw
     case rel=>
      have hm:=HE.out;subst hm;have e:m.trace++s.toList.take (j+1)=m.trace++s.toList.take j++[s[j]]:=by rw[No aL,List.append_assoc]
      refine⟨j+1,by omega,by go_num,?_⟩;rw[e];exact⟨_,_,N9⟩
     case measure=>simp[intOf];omega
   ·go_wp2
    go_end0
    have e:s.toList.take j=ph m c n:=by rw[List.take_of_length_le (by rw[length_toList];omega),HS.out]
    have hM:=HM.out;rw[e]at hM;exact⟨rfl,hM⟩
 ·have lx:(⟨#[32]⟩:ByteArray)++(bs [c]++bs (su n))=s:=by rw[hs,ph,ja ht];exact AF (by rw[eJ,eJ,aE,aE,show(⟨#[32]⟩:ByteArray).toList=[32]from aE [32]];rfl)
  have h0:(0:Int)<m.trace.length:=by have:=List.length_pos_iff.2 ht;omega
  clear hs hd;go_enter Tryz.func152,Tryz.ntmps152
  go_wp2_with (go_at_call 191;refine(KD _).mono ?_;rintro e w1 ⟨rfl,aw⟩;obtain⟨vb,vt,hV⟩:=h.below aw;obtain⟨b,cap,rfl⟩:=vU hV.trace;obtain⟨c0,c1,c2,c3,c4,c5,c6,c7,c8,c9⟩:=hV.facts)
  have HV:Hid (cd w0 x f w1 m):=⟨_,_,hV⟩;rename_i hx;clear hV c0 c1 c2 c3 c4 c5 c6 c7 c8 c9 aw h h0 hx;go_loopw [7] (fun v4 wr=>∃(j:Nat),j<=s.size/\v4=.int .i64 j/\Hid (cd w0 x f wr {m with trace:=m.trace++s.toList.take j})) (fun i _=>s.size-(intOf i).toNat)
  case atStart=>exact⟨0,jQ _,rfl,by simpa [Hid]using HV.out⟩
  case round=>
   obtain⟨j,hj,rfl,HM⟩:=hrel;clear HV;by_cases aL:j<s.size
   ·obtain⟨vb,vt,hV⟩:=HM.out;have hlt0:=hV.lt;have qP:=hV.base;have hlen:({m with trace:=m.trace++s.toList.take j}:RM).trace.length<=100000022:=by simp only[List.length_append,List.length_take];omega
    generalize hm:({m with trace:=m.trace++s.toList.take j}:RM)=m' at*;have HE:Hid (_=_):=hm;clear hm HM;have lf:bO w0 x f wr.drew m' vb vt:=hV.below ((Below.refl _ _).drew);obtain⟨c0,c1,c2,c3,c4,c5,c6,c7,c8,c9⟩:=hV.facts;have aY:Below wr.drew.heap.size wr.drew (wr.drew.alloc (.cells #[.int .u8 (s[j].toNat:Nat)] 5)):=(Below.refl _ _).alloc (jC _) _;have HA:=lf.below aY;obtain⟨a0,a1,a2,a3,a4,a5,a6,a7,a8,a9⟩:=HA.facts;have qu:w0.heap.size<=(wr.drew.alloc (.cells #[.int .u8 (s[j].toNat:Nat)] 5)).heap.size:=by have:=HA.lt;omega
    go_upto_region 6 with fail
    go_region_law (refine rD (by rfl) _ _ _ (by rfl) w0.heap.size 5 i (.int .u8 0) 1 1 Tryz.underlying93 hi A1 Ez xX (by rfl) (by decide) vt _ _ (by rfl) HA.trace wr.heap.size [.int .u8 (s[j].toNat:Nat)] (by rfl) jD (by rfl) (by intro u' hu;simp at hu;subst hu;rfl) (by decide) (by omega) qu ?_;intro g4 c4' w4 hown4 hgrow4 hat4 hlt4;obtain⟨gK,N9⟩:=HA.Mw hown4 hgrow4;have rf:w4.frozen? ⟨x,151,none⟩=false:=frozen_of_heap gK 151;have r5:w4.cell? ⟨x,151,none⟩=some vt:=(by rw[cell_of_heap gK,List.getElem?_toArray];exact HA.len.jr (f:=f) (vb:=vb) (vt:=vt) 3))
    all_goals go_wp2_with fail
    all_goals
     go_roundw
     case rel=>
      have hm:=HE.out;subst hm;have e:m.trace++s.toList.take (j+1)=m.trace++s.toList.take j++[s[j]]:=by rw[No aL,List.append_assoc]
      refine⟨j+1,by omega,by go_num,?_⟩;rw[e];exact⟨_,_,N9⟩
     case measure=>simp[intOf];omega
   ·go_wp2
    go_end0
    have e:s.toList.take j=ph m c n:=by rw[List.take_of_length_le (by rw[length_toList];omega),HS.out]
    have hM:=HM.out;rw[e]at hM;exact⟨rfl,hM⟩
end
end Mac
namespace Mac
open Go Go.RowKit Sq Aux PrjJ PrjK PrjL PrjM Go.Proofs.YtmlgajhhnojdjaaGreatDoor.Own RefRa RefP
structure Ctx (w0:World)(p:RP)(f:Fx):Prop where
 prog:bf w0 f.a p
 ok:p.Ok
 aW:p.lets.length<=12
structure Wd (p:RP)(l:B):Prop where
 len:l.length<=maxLen
 find:0<=p.find (aj l)
structure RM.Ok (m:RM)(t:Nat):Prop where
 ints:∀j,aO (m.ints.getD j 0)
 held:∀j,m.held.getD j 0<=m.boxes.length
 zr:∀j,aO (m.boxes.getD j (0,false)).1
 boxes:m.boxes.length<=t
 trace:m.trace.length<=30*t
 count: -(t:Int)<=m.count/\m.count<=t
 used:m.used<=t
def sp (p:RP)(l:B):Nat:=(p.ak l).1
def RM.bE (m:RM)(i:Nat):RM:=if m.has.getD i false=true then m else{m with out:=5}
def RM.int (m:RM)(i:Nat):Int:=m.ints.getD i 0
def RM.be (m:RM)(i:Nat)(v:Int):RM:={m with ints:=m.ints.set i v,has:=m.has.set i true}
def RM.named (m:RM)(i:Nat):Nat:=if m.held.getD i 0=0\/(m.box (m.held.getD i 0)).2=false then 0 else m.held.getD i 0
def RM.boxed (m:RM)(i:Nat):RM:=if m.named i=0 then{m with out:=5}else m
def RM.free (m:RM)(i:Nat):RM:=if m.named i=0 then{m with out:=5}else RM.note {m with boxes:=m.boxes.set (m.named i-1) ((m.box (m.named i)).1,false),count:=m.count-1} 45 ((m.named i:Nat):Int)
def RM.made (f:Fx)(m:RM)(i:Nat)(v:Int):RM:=
 if f.room<=m.count then{m with out:=3}else
  let m1:=RM.note {m with boxes:=m.boxes++[(v,true)],count:=m.count+1} 43 ((m.boxes.length+1:Nat):Int)
  let m2:RM:={m1 with held:=m1.held.set i (m.boxes.length+1)}
  if f.owns=true then{m2 with ba:=m2.ba.set i 119}else m2
section
variable {w0 w w1 w2 w3:World} {x:Nat} {f:Fx} {m:RM} {p:RP} {l:B} {t:Nat}
theorem Wd.lt (h:Wd p l)(cg:p.lets.length<=12):sp p l<24/\sp p l+(p.ak l).2<=24/\1<=(p.ak l).2/\(p.ak l).2<=2:=by
 obtain⟨j,hj,ou,_⟩:=RP.eA h.find;unfold sp RP.ak;rw[hj];split
 ·simp only[Int.toNat_natCast];omega
 ·split<;>(simp only[Int.toNat_natCast];omega)
theorem fc (hC:Ctx w0 p f)(h:cd w0 x f w m)(hl:Wd p l):
  Calls Tryz.prog 149 #[.pointer (some ⟨x,0,none⟩),.string (bs l)] w fun e w'=>e=.returned (.int .i64 (sp p l:Nat))/\cd w0 x f w' m:=by
 obtain⟨vb,vt,hV⟩:=h;have KS:=fun w' (hp:bf w' f.a p)=>kz p f.a l w' hp hC.ok hl.len hl.find
 obtain⟨c0,c1,c2,c3,c4,c5,c6,c7,c8,c9⟩:=hV.facts;have HP:=hC.prog.below hV.br;go_enter Tryz.func149,Tryz.ntmps149
 go_wp2_with (go_at_call 143;refine(KS _ HP).mono ?_;rintro e w1 ⟨rfl,n1,rfl⟩)
 go_ret
 exact⟨rfl,⟨vb,vt,hV.below (below_drewN (Below.refl _ _) _)⟩⟩
set_option maxRecDepth 20000 in
set_option maxHeartbeats 1000000 in
theorem cN (hC:Ctx w0 p f)(h:cd w0 x f w m)(hl:Wd p l):
  Calls Tryz.prog 147 #[.pointer (some ⟨x,0,none⟩),.string (bs l)] w fun e w'=>e=.returned (.int .i64 (m.int (sp p l)))/\cd w0 x f w' (m.bE (sp p l)):=by
 have KS:=fc hC h hl;obtain⟨hi,-⟩:=hl.lt hC.aW;unfold RM.int;generalize sp p l=i at*;have i1:(i:Int)<24:=by omega
 cases hh:m.has.getD i false
 ·have HG:Hid (m.bE i={m with out:=5}):=by unfold Hid RM.bE;rw[ja (by rw[hh];decide)]
  go_enter Tryz.func147,Tryz.ntmps147
  go_wp2_with (go_at_call 149;refine KS.mono ?_;rintro e w1 ⟨rfl,vb,vt,hV⟩;obtain⟨a1,a2⟩:=hV.eC hi;rw[hh]at a1;obtain⟨b1,b2⟩:=hV.MX hi;obtain⟨f1,f2,f3,f4,f5,f6⟩:=hV.eB;obtain⟨c0,c1,c2,c3,c4,c5,c6,c7,c8,c9⟩:=hV.facts;have eR:bO w0 x f (w1.setCell ⟨x,154,none⟩ (.int .i64 5)) {m with out:=5} vb vt:=hV.tG 5;obtain⟨d1,d2⟩:=eR.MX hi)
  go_ret
  exact⟨rfl,by rw[HG.out];exact⟨vb,vt,eR⟩⟩
 ·have HG:Hid (m.bE i=m):=by unfold Hid RM.bE;rw[jb hh]
  go_enter Tryz.func147,Tryz.ntmps147
  go_wp2_with (go_at_call 149;refine KS.mono ?_;rintro e w1 ⟨rfl,vb,vt,hV⟩;obtain⟨a1,a2⟩:=hV.eC hi;rw[hh]at a1;obtain⟨b1,b2⟩:=hV.MX hi)
  go_ret
  exact⟨rfl,by rw[HG.out];exact⟨vb,vt,hV⟩⟩
set_option maxRecDepth 20000 in
set_option maxHeartbeats 1000000 in
theorem qE (hC:Ctx w0 p f)(h:cd w0 x f w m)(hl:Wd p l)(v:Int):
  Calls Tryz.prog 150 #[.pointer (some ⟨x,0,none⟩),.string (bs l),.int .i64 v] w fun e w'=>e=.returned (.tuple #[])/\cd w0 x f w' (m.be (sp p l) v):=by
 have KS:=fc hC h hl;obtain⟨hi,-⟩:=hl.lt hC.aW;unfold RM.be;generalize sp p l=i at*;have i1:(i:Int)<24:=by omega
 go_enter Tryz.func150,Tryz.ntmps150
 go_wp2_with (go_at_call 149;refine KS.mono ?_;rintro e w1 ⟨rfl,vb,vt,hV⟩;obtain⟨b1,b2⟩:=hV.MX hi;have eR:=hV.setInt hi v;obtain⟨d1,d2⟩:=eR.eC hi;have qt:=eR.L1 hi true)
 go_end0
 exact⟨rfl,⟨vb,vt,qt⟩⟩
set_option maxRecDepth 20000 in
set_option maxHeartbeats 1000000 in
theorem iY (h:cd w0 x f w m){i:Nat}(hi:i<24)(hO:m.Ok t)(ht:t<=10000000):
  Calls Tryz.prog 193 #[.pointer (some ⟨x,0,none⟩),.int .i64 (i:Nat)] w fun e w'=>e=.returned (.int .i64 (m.named i:Nat))/\cd w0 x f w' (m.boxed i):=by
 have hh:=hO.held i;have hb:=hO.boxes;obtain⟨vb,vt,hV⟩:=h;obtain⟨a1,a2⟩:=hV.Et hi;have eR:bO w0 x f (w.setCell ⟨x,154,none⟩ (.int .i64 5)) {m with out:=5} vb vt:=hV.tG 5;obtain⟨f1,f2,f3,f4,f5,f6⟩:=hV.eB;obtain⟨c0,c1,c2,c3,c4,c5,c6,c7,c8,c9⟩:=hV.facts;have i1:(i:Int)<24:=by omega
 by_cases h0:m.held.getD i 0=0
 ·have e0:m.named i=0:=by unfold RM.named;rw[jb (.inl h0)]
  have HG:Hid (m.boxed i={m with out:=5}):=by unfold Hid RM.boxed;rw[jb e0]
  rw[e0];rw[h0]at a1;go_enter Tryz.func193,Tryz.ntmps193
  go_wp2
  go_ret
  exact⟨rfl,by rw[HG.out];exact⟨vb,vt,eR⟩⟩
 ·have HN:Hid (m.named i=if m.held.getD i 0=0\/(m.box (m.held.getD i 0)).2=false then 0 else m.held.getD i 0):=rfl;generalize hn:m.held.getD i 0=n at*;obtain⟨g,cap,rfl,kM,hg,q0,q1,q2,q3⟩:=hV.box (n:=n) (by omega) hh;have i2:((n:Int)==0)=false:=by rw[jZ];omega
  have i3:(1:Int)<=n:=by omega
  have i4:(n:Int)<=m.boxes.length:=by omega
  have e1:((n:Int)-1).toNat=n-1:=by omega
  cases hl:(m.box n).2
  ·have e0:m.named i=0:=by rw[HN.out,jb (.inr hl)]
   have HG:Hid (m.boxed i={m with out:=5}):=by unfold Hid RM.boxed;rw[jb e0]
   rw[e0];rw[hl]at q1;go_enter Tryz.func193,Tryz.ntmps193
   go_wp2
   go_ret
   exact⟨rfl,by rw[HG.out];exact⟨_,vt,eR⟩⟩
  ·have e0:m.named i=n:=by rw[HN.out,ja (by rw[hl];simp[h0])]
   have HG:Hid (m.boxed i=m):=by unfold Hid RM.boxed;rw[ja (by rw[e0];exact h0)]
   rw[e0];rw[hl]at q1;go_enter Tryz.func193,Tryz.ntmps193
   go_wp2
   go_ret
   exact⟨rfl,by rw[HG.out];exact⟨_,vt,hV⟩⟩
end
end Mac
namespace Mac
open Go Go.RowKit Sq Aux PrjJ PrjK PrjL PrjM Go.Proofs.YtmlgajhhnojdjaaGreatDoor.Own RefRa RefP
theorem yw (m:RM)(c:UInt8){n:Int}(hn:aO n):(ph m c n).length<=22:=by
 have:=F6 n hn;unfold ph;split<;>simp<;>omega
theorem El {l:List Int}(h:∀j,aO (l.getD j 0))(i:Nat){v:Int}(hv:aO v)(j:Nat):aO ((l.set i v).getD j 0):=by
 rw[jA,jd];split
 ·split
  ·exact hv
  ·unfold aO;simp
 ·rw[<-jA];exact h j
section
variable {w0 w w1 w2 w3:World} {x:Nat} {f:Fx} {m:RM} {p:RP} {l:B} {t:Nat}
theorem RM.Ok.mono {t':Nat}(h:m.Ok t)(ht:t<=t'):m.Ok t':=⟨h.ints,h.held,h.zr,by have:=h.boxes;omega,by have:=h.trace;omega,by have:=h.count;omega,by have:=h.used;omega⟩
theorem RM.Ok.outs (h:m.Ok t)(k:Nat):RM.Ok {m with out:=k} t:=⟨h.ints,h.held,h.zr,h.boxes,h.trace,h.count,h.used⟩
theorem RM.Ok.bE (h:m.Ok t)(i:Nat):(m.bE i).Ok t:=by unfold RM.bE;split;exact h;exact h.outs 5
theorem RM.Ok.boxed (h:m.Ok t)(i:Nat):(m.boxed i).Ok t:=by unfold RM.boxed;split;exact h.outs 5;exact h
theorem RM.Ok.be (h:m.Ok t)(i:Nat){v:Int}(hv:aO v):(m.be i v).Ok t:=⟨El h.ints i hv,h.held,h.zr,h.boxes,h.trace,h.count,h.used⟩
theorem RM.Ok.note (h:m.Ok t)(c:UInt8){n:Int}(hn:aO n):(m.note c n).Ok (t+1):=
 ⟨h.ints,h.held,h.zr,by have:=h.boxes;show m.boxes.length<=_;omega,by
  have:=h.trace;have:=yw m c hn;show(m.trace++ph m c n).length<=_
  rw[jV];omega,by have:=h.count;show _<=m.count/\m.count<=_;omega,by have:=h.used;show m.used<=_;omega⟩
theorem oV (h:m.Ok t)(i:Nat):m.named i<=m.boxes.length:=by
 unfold RM.named;split
 ·omega
 ·exact h.held i
theorem zN {n t:Nat}(h:n<=t)(ht:t<=10000001):aO ((n:Nat):Int):=by unfold aO;omega
theorem MC (h:m.Ok t)(n:Nat):aO (m.box n).1:=h.zr _
theorem RM.Ok.tF (h:m.Ok t)(k:Nat){v:Int×Bool}(hv:aO v.1)(c:Int)(hc: -((t+1:Nat):Int)<=c/\c<=((t+1:Nat):Int))(L:B)(hL:L.length<=30*(t+1)):RM.Ok {m with boxes:=m.boxes.set k v,count:=c,trace:=L} (t+1):=
 ⟨h.ints,fun j=>by rw[List.length_set];exact h.held j,fun j=>by
  show aO ((m.boxes.set k v).getD j (0,false)).1
  rw[jA,jd];split
  ·split
   ·exact hv
   ·unfold aO;simp
  ·rw[<-jA];exact h.zr j,by rw[List.length_set];have:=h.boxes;omega,hL,hc,by have:=h.used;show m.used<=_;omega⟩
theorem RM.Ok.free (h:m.Ok t)(ht:t<=10000000)(i:Nat):(m.free i).Ok (t+1):=by
 unfold RM.free;split
 ·exact(h.outs 5).mono (by omega)
 ·have h1:=h.trace;have h2:=h.count;have h3:=oV h i;have h4:=h.boxes;have h5:=yw {m with boxes:=m.boxes.set (m.named i-1) ((m.box (m.named i)).1,false),count:=m.count-1} 45 (n:=((m.named i:Nat):Int)) (zN (t:=t) (by omega) (by omega));exact h.tF _ (v:=((m.box (m.named i)).1,false)) (MC h _) (m.count-1) (by omega) _ (by rw[jV];exact jS (Nat.add_le_add h1 h5) (by omega))
theorem RM.Ok.ba (h:m.Ok t)(L:List UInt8):RM.Ok {m with ba:=L} t:=⟨h.ints,h.held,h.zr,h.boxes,h.trace,h.count,h.used⟩
theorem RM.Ok.made (h:m.Ok t)(ht:t<=10000000)(i:Nat){v:Int}(hv:aO v):(m.made f i v).Ok (t+1):=by
 unfold RM.made;split
 ·exact(h.outs 3).mono (by omega)
 ·have h1:=h.trace;have h2:=h.count;have h4:=h.boxes;have h5:=yw {m with boxes:=m.boxes++[(v,true)],count:=m.count+1} 43 (n:=((m.boxes.length+1:Nat):Int)) (zN (t:=t+1) (by omega) (by omega));have h6:RM.Ok {(RM.note {m with boxes:=m.boxes++[(v,true)],count:=m.count+1} 43 ((m.boxes.length+1:Nat):Int))with held:=m.held.set i (m.boxes.length+1)} (t+1):=by
   refine⟨h.ints,fun j=> ?_,fun j=> ?_,?_,?_,?_,?_⟩
   ·show(m.held.set i (m.boxes.length+1)).getD j 0<=(m.boxes++[(v,true)]).length
    rw[jV,jA,jd];split
    ·split
     ·simp
     ·simp
    ·rw[<-jA];have:=h.held j;simp only[List.length_cons,List.length_nil];omega
   ·show aO ((m.boxes++[(v,true)]).getD j (0,false)).1
    by_cases hj:j<m.boxes.length
    ·rw[jA,jg hj,<-jA];exact h.zr j
    ·rw[jA,jf (by omega)];cases j-m.boxes.length with
     |zero=>exact hv
     |succ k=>unfold aO;simp
   ·show(m.boxes++[(v,true)]).length<=_
    simp only[List.length_append,List.length_cons,List.length_nil];omega
   ·show(m.trace++_).length<=_
    rw[jV];exact jS (Nat.add_le_add h1 h5) (by omega)
   ·show _<=m.count+1/\m.count+1<=_;omega
   ·have:=h.used;show m.used<=_;omega
  simp only;split
  ·exact h6.ba _
  ·exact h6
set_option maxRecDepth 20000 in
set_option maxHeartbeats 1000000 in
theorem AL (h:cd w0 x f w m){i:Nat}(hi:i<24)(hO:m.Ok t)(ht:t<=3000000):
  Calls Tryz.prog 156 #[.pointer (some ⟨x,0,none⟩),.int .i64 (i:Nat)] w fun e w'=>e=.returned (.tuple #[])/\cd w0 x f w' (m.free i):=by
 have KB:=iY h hi hO (by omega);have hb:=hO.boxes;have hn:=oV hO i;have hc:=hO.count;have htr:=hO.trace;by_cases h0:m.named i=0
 ·have HG:Hid (m.free i=m.boxed i):=by unfold Hid RM.free RM.boxed;rw[jb h0,jb h0]
  rw[h0]at KB;go_enter Tryz.func156,Tryz.ntmps156
  go_wp2_with (go_at_call 193;refine KB.mono ?_;rintro e w1 ⟨rfl,hM⟩)
  go_end0
  exact⟨rfl,by rw[HG.out];exact hM⟩
 ·have e:m.boxed i=m:=by unfold RM.boxed;rw[ja h0]
  have HG:Hid (m.free i=RM.note {m with boxes:=m.boxes.set (m.named i-1) ((m.box (m.named i)).1,false),count:=m.count-1} 45 ((m.named i:Nat):Int)):=by unfold Hid RM.free;rw[ja h0]
  rw[e]at KB;generalize m.named i=n at*;have i3:(1:Int)<=n:=by omega
  have i4:(n:Int)<=m.boxes.length:=by omega
  have e1:((n:Int)-1).toNat=n-1:=by omega
  have i5:(0:Int)<n:=by omega
  go_enter Tryz.func156,Tryz.ntmps156
  go_wp2_with (first
   |(go_at_call 193;refine KB.mono ?_;rintro e w1 ⟨rfl,vb,vt,hV⟩;obtain⟨g,cap,rfl,kM,hg,q0,q1,q2,q3⟩:=hV.box (n:=n) (by omega) hn;obtain⟨c0,c1,c2,c3,c4,c5,c6,c7,c8,c9⟩:=hV.facts;have eR:=(hV.tF (n:=n) (by omega) hn).2 false;obtain⟨a0,a1,a2,a3,a4,a5,a6,a7,a8,a9⟩:=eR.facts;obtain⟨f1,f2,f3,f4,f5,f6⟩:=eR.eB;have qt:=eR.IW (m.count-1);have KN:Calls Tryz.prog 152 #[.pointer (some ⟨x,0,none⟩),.string ⟨#[45]⟩,.int .i64 ((n:Nat):Int)] _ _:=gd ⟨_,_,qt⟩ 45 ((n:Nat):Int) (by unfold aO;omega) (by show m.trace.length<=_;omega))
   |(go_at_call 152;refine KN.mono ?_;rintro e w9 ⟨rfl,hM⟩))
  go_end0
  exact⟨rfl,by rw[HG.out];exact hM⟩
end
end Mac
namespace Mac
open Go Go.RowKit Sq Aux PrjJ PrjK PrjL PrjM Go.Proofs.YtmlgajhhnojdjaaGreatDoor.Own RefRa RefP RefO
def dk (l:B):UInt8:=if partOf l=115 then 104 else 45
theorem M0 (l:B):left l=[dk l]:=by unfold left dk;split<;>rfl
def RM.ee (m:RM)(c:UInt8)(k:Nat):RM:=let m1:=if m.ba.getD k 0=119 then m.free k else m;{m1 with ba:=m1.ba.set k c}
def RM.mh (m:RM)(c:UInt8)(k:Nat):Nat->RM
 |0=>m
 |n+1=>(RM.mh m c k n).ee c (k+n)
def RM.drop (p:RP)(m:RM)(l:B):RM:=m.mh (dk l) (sp p l) (p.ak l).2
section
variable {w0 w w1 w2 w3:World} {x:Nat} {f:Fx} {m:RM} {p:RP} {l:B} {t:Nat}
theorem RM.Ok.ee (h:m.Ok t)(ht:t<=10000000)(c:UInt8)(k:Nat):(m.ee c k).Ok (t+1):=by
 unfold RM.ee;simp only;split
 ·exact(h.free ht k).ba _
 ·exact(h.mono (by omega)).ba _
theorem RM.Ok.mh (h:m.Ok t)(c:UInt8)(k:Nat):∀n,t+n<=10000000->(m.mh c k n).Ok (t+n)
 |0,_=>h
 |n+1,hn=>(RM.Ok.mh h c k n (by omega)).ee (by omega) c (k+n)
theorem RM.Ok.drop (h:m.Ok t)(ht:t+2<=10000000)(hl:Wd p l)(cg:p.lets.length<=12):(m.drop p l).Ok (t+2):=by
 obtain⟨-,-,-,h2⟩:=hl.lt cg;exact(h.mh _ _ _ (by omega)).mono (by omega)
end
end Mac
namespace Mac
open Go Go.RowKit Sq Aux PrjJ PrjK PrjL PrjM Go.Proofs.YtmlgajhhnojdjaaGreatDoor.Own RefRa RefP
def yq:B:=[97,100,100]
def yt:B:=[115,117,98]
def yr:B:=[109,117,108]
def sB:B:=[100,105,118]
def qo:B:=[115,111,109,101]
def MA (w:B):Nat:=if w=yq then 3 else if w=yt then 4 else if w=yr then 5 else 6
def RM.arith (p:RP)(m:RM)(ws:List B):RM:=
 let m1:=(m.bE (sp p (word ws 2))).bE (sp p (word ws 3))
 if¬m1.out=0 then m1
 else if word ws 0=sB/\m.int (sp p (word ws 3))=0 then{m1 with out:=4}
 else m1.be (sp p (word ws 1)) (vf (MA (word ws 0)) (m.int (sp p (word ws 2))) (m.int (sp p (word ws 3))))
def RM.dc (m:RM)(c:UInt8)(i:Nat):Nat->RM
 |0=>m
 |n+1=>{RM.dc m c i n with ba:=(RM.dc m c i n).ba.set (i+n) c}
def RM.cU (m:RM)(held:List Nat)(ba:List UInt8)(j i:Nat):Nat->RM
 |0=>m
 |n+1=>{RM.cU m held ba j i n with held:=(RM.cU m held ba j i n).held.set (j+n) (held.getD (i+n) 0),ba:=(RM.cU m held ba j i n).ba.set (j+n) (ba.getD (i+n) 0)}
def RM.owned (p:RP)(m:RM)(ws:List B):RM:=
 let m1:=m.dc (dk (word ws 2)) (sp p (word ws 2)) (p.ak (word ws 2)).2
 let m2:=m1.drop p (word ws 1)
 let m3:=m2.cU m.held m.ba (sp p (word ws 1)) (sp p (word ws 2)) (p.ak (word ws 2)).2
 if word ws 0=qo then{m3 with ba:=m3.ba.set (sp p (word ws 1)) 119}else m3
def RM.Qw (j i:Nat):Nat->Nat->RM->RM×Bool
 |0,_,m=>(m,true)
 |k+1,c,m=>if m.held.getD (i+c) 0=0 then({m with out:=5},false)else RM.Qw j i k (c+1) {m with held:=m.held.set (j+c) (m.held.getD (i+c) 0)}
def RM.V4 (p:RP)(m:RM)(ws:List B):RM:=
 let r:=RM.Qw (sp p (word ws 1)) (sp p (word ws 2)) (p.ak (word ws 2)).2 0 m
 if r.2=false then r.1 else if word ws 0=qo then{r.1 with ba:=r.1.ba.set (sp p (word ws 1)) 119}else r.1
def RM.bare (p:RP)(m:RM)(ws:List B):RM:=
 if p.typeOf (word ws 2)=eH then
  if m.ba.getD (sp p (word ws 2)) 0=0 then{m with out:=5}
  else
   let m1:RM:={m with ba:=m.ba.set (sp p (word ws 1)) (m.ba.getD (sp p (word ws 2)) 0)}
   if m1.ba.getD (sp p (word ws 2)) 0=110 then m1 else m1.V4 p ws
 else m.V4 p ws
def RM.new (f:Fx)(p:RP)(m:RM)(ws:List B):RM:=
 let m1:=m.bE (sp p (word ws 2))
 if¬m1.out=0 then m1 else RM.made f (if f.owns=true then m1.drop p (word ws 1)else m1) (sp p (word ws 1)) (m.int (sp p (word ws 2)))
def RM.load (p:RP)(m:RM)(ws:List B):RM:=
 let i:=sp p (word ws 2)
 let m1:=m.boxed i
 if m1.out=0 then(m1.note 60 ((m.named i:Nat):Int)).be (sp p (word ws 1)) (m.box (m.named i)).1 else m1
def RM.store (p:RP)(m:RM)(ws:List B):RM:=
 let i:=sp p (word ws 1)
 let m1:=(m.boxed i).bE (sp p (word ws 2))
 if m1.out=0 then{m1.note 62 ((m.named i:Nat):Int)with boxes:=m.boxes.set (m.named i-1) (m.int (sp p (word ws 2)),(m.box (m.named i)).2)}else m1
def RM.none (f:Fx)(p:RP)(m:RM)(ws:List B):RM:=
 let m1:=if f.owns=true then m.drop p (word ws 1)else m
 {m1 with ba:=m1.ba.set (sp p (word ws 1)) 110}
def RM.input (p:RP)(al:List Int)(m:RM)(ws:List B):RM:=RM.be {m with used:=m.used+1} (sp p (word ws 1)) (al.getD m.used 0)
def RM.tell (p:RP)(m:RM)(ws:List B):RM:=
 let m1:=m.bE (sp p (word ws 1))
 if m1.out=0 then m1.note 111 (m.int (sp p (word ws 1)))else m1
def kX (w:B):Int:=(number w).getD 0
def RM.aS (f:Fx)(p:RP)(al:List Int)(m:RM)(ws:List B):RM:=
 let w:=word ws 0
 if w=[115,101,116]then m.be (sp p (word ws 1)) (kX (word ws 2))
 else if w=yq\/w=yt\/w=yr\/w=sB then m.arith p ws
 else if w=[105,110]then m.input p al ws
 else if w=[111,117,116]then m.tell p ws
 else if w=[110,101,119]then m.new f p ws
 else if w=[108,111,97,100]then m.load p ws
 else if w=[115,116,111,114,101]then m.store p ws
 else if w=[109,111,118,101]\/w=qo then(if f.owns=true then m.owned p ws else m.bare p ws)
 else if w=[110,111,110,101]then m.none f p ws
 else if w=[100,114,111,112]then m.drop p (word ws 1)
 else if w=[102,114,101,101]then m.free (sp p (word ws 1))
 else if w=[102,108,97,103]then{m with flags:=m.flags.set (kX (word ws 1)).toNat (word ws 2==[49])}
 else m
def RM.next (p:RP)(m:RM)(ws:List B):RM×B:=
 let w:=word ws 0
 if w=[103,111,116,111]then(m,word ws 1)
 else if w=[105,102]then(m.bE (sp p (word ws 1)),if m.int (sp p (word ws 1))=0 then word ws 3 else word ws 2)
 else if w=bT then(if m.ba.getD (sp p (word ws 1)) 0=0 then{m with out:=5}else m,if m.ba.getD (sp p (word ws 1)) 0=110 then word ws 2 else word ws 3)
 else(m,if m.flags.getD (kX (word ws 1)).toNat false=true then word ws 2 else word ws 3)
def RM.fA (p:RP):Nat->RM->RM
 |0,m=>m
 |n+1,m=>RM.fA p n (if word (p.line (p.lets.getD n 0)) 2=mN then m else m.drop p (word (p.line (p.lets.getD n 0)) 1))
def RM.finish (f:Fx)(p:RP)(m:RM)(ws:List B):RM:=
 let m1:=m.bE (sp p (word ws 1))
 if¬m1.out=0 then m1 else
  let m2:RM:={m1 with out:=1,value:=m.int (sp p (word ws 1))}
  if f.owns=true then m2.fA p p.lets.length else m2
def eX (p:RP)(w:B):Nat:=p.blocks.getD (kX w).toNat 0
def eS (f:Fx)(p:RP)(al:List Int):Nat->Nat->RM->RM
 |0,_,m=>if m.out=0 then{m with out:=2}else m
 |n+1,at',m=>
  if¬m.out=0 then m else
   let i:=if ao (p.line at')then at'+1 else at'
   let ws:=p.line i
   if word ws 0=[101,110,100]then m.finish f p ws
   else if ends (word ws 0)=true then eS f p al n (eX p (m.next p ws).2) (m.next p ws).1
   else eS f p al n (i+1) (m.aS f p al ws)
def RM.start:RM:=⟨List.replicate 24 0,List.replicate 24 false,List.replicate 24 0,List.replicate 24 0,List.replicate 50 false,[],0,[],0,0,0⟩
end Mac
namespace Mac
open Go Go.RowKit Sq Aux PrjJ PrjK PrjL PrjM Go.Proofs.YtmlgajhhnojdjaaGreatDoor.Own RefRa RefP
structure Row (w0:World)(ws:List B)(gw:Nat):Prop where
 lt:gw<w0.heap.size
 cells:∀j,j<ws.length->w0.cell? ⟨gw,j,none⟩=some (.string (bs (word ws j)))
 wide:ws.length<=1099511627777
section
variable {w0 w w1 w2 w3:World} {x gw cw:Nat} {f:Fx} {m:RM} {p:RP} {ws:List B} {t:Nat} {vb vt:Value}
theorem Row.at (h:Row w0 ws gw)(hV:bO w0 x f w m vb vt){j:Nat}(hj:j<ws.length):w.cell? ⟨gw,j,none⟩=some (.string (bs (word ws j))):=(hV.br.cell (p:=⟨gw,j,none⟩) h.lt).trans (h.cells j hj)
theorem Row.on (h:Row w0 ws gw)(hM:cd w0 x f w m){j:Nat}(hj:j<ws.length):w.cell? ⟨gw,j,none⟩=some (.string (bs (word ws j))):=by obtain⟨vb,vt,hV⟩:=hM;exact h.at hV hj
theorem oW (i j:Nat):(m.bE i).int j=m.int j:=by unfold RM.bE;split<;>rfl
theorem SR {n:Nat}(h:¬n=0):¬((n:Nat):Int)=0:=by omega
set_option maxRecDepth 20000 in
set_option maxHeartbeats 2000000 in
theorem ND (hC:Ctx w0 p f)(h:cd w0 x f w m)(hR:Row w0 ws gw)(hn:ws.length=4)(h2:Wd p (word ws 2))(h3:Wd p (word ws 3))(ho:¬((m.bE (sp p (word ws 2))).bE (sp p (word ws 3))).out=0):
  Calls Tryz.prog 151 #[.pointer (some ⟨x,0,none⟩),.slice (some ⟨gw,0,none⟩) ws.length cw] w fun e w'=>e=.returned (.tuple #[])/\cd w0 x f w' (m.arith p ws):=by
 have Js:=SR ho;have HG:Hid (m.arith p ws=(m.bE (sp p (word ws 2))).bE (sp p (word ws 3))):=by unfold Hid RM.arith;simp only;rw[jb ho]
 have la:(ws.length:Int)=4:=by omega
 have xX:=hR.on h (j:=2) (by omega);have Qk:=cN hC h h2;go_enter Tryz.func151,Tryz.ntmps151
 go_wp2_with (first
  |(go_at_call 147;refine FH.mono ?_;rintro e w2 ⟨rfl,vb2,vt2,eR⟩;obtain⟨c0,c1,c2,c3,c4,c5,c6,c7,c8,c9⟩:=eR.facts;obtain⟨f1,f2,f3,f4,f5,f6⟩:=eR.eB;skip)
  |(go_at_call 147;refine Qk.mono ?_;rintro e w1 ⟨rfl,xM⟩;have hz3:=hR.on xM (j:=3) (by omega);have FH:=cN hC xM h3;rw[oW]at FH))
 try simp only[Exit.inBlock,Exit.then]
 refine bodyPost_ret (results_none rfl _ _ _) rfl ?_;exact⟨rfl,by rw[HG.out];exact⟨_,_,eR⟩⟩
set_option maxRecDepth 20000 in
set_option maxHeartbeats 2000000 in
theorem NA (hC:Ctx w0 p f)(h:cd w0 x f w m)(hR:Row w0 ws gw)(hn:ws.length=4)(h1:Wd p (word ws 1))(h2:Wd p (word ws 2))(h3:Wd p (word ws 3))(h0:word ws 0=[97,100,100])(ho:((m.bE (sp p (word ws 2))).bE (sp p (word ws 3))).out=0):
  Calls Tryz.prog 151 #[.pointer (some ⟨x,0,none⟩),.slice (some ⟨gw,0,none⟩) ws.length cw] w fun e w'=>e=.returned (.tuple #[])/\cd w0 x f w' (m.arith p ws):=by
 have Js:((((m.bE (sp p (word ws 2))).bE (sp p (word ws 3))).out:Nat):Int)=0:=by omega
 have HG:Hid (m.arith p ws=((m.bE (sp p (word ws 2))).bE (sp p (word ws 3))).be (sp p (word ws 1)) (wrap64 (m.int (sp p (word ws 2))+m.int (sp p (word ws 3))))):=by unfold Hid RM.arith;rw[h0];simp only;rw[ja (by rw[ho];decide),ja (fun e=>absurd e.1 (by decide))];rfl
 have la:(ws.length:Int)=4:=by omega
 have xX:=hR.on h (j:=2) (by omega);have Qk:=cN hC h h2;go_enter Tryz.func151,Tryz.ntmps151
 go_wp2_with (first
  |(go_at_call 147;refine FH.mono ?_;rintro e w2 ⟨rfl,vb2,vt2,eR⟩;obtain⟨c0,c1,c2,c3,c4,c5,c6,c7,c8,c9⟩:=eR.facts;obtain⟨f1,f2,f3,f4,f5,f6⟩:=eR.eB;rw[Js]at c8;have y0:=hR.at eR (j:=0) (by omega);rw[h0]at y0;have y1:=hR.at eR (j:=1) (by omega);have KB:=qE hC ⟨_,_,eR⟩ h1 (wrap64 (m.int (sp p (word ws 2))+m.int (sp p (word ws 3)))))
  |(go_at_call 147;refine Qk.mono ?_;rintro e w1 ⟨rfl,xM⟩;have hz3:=hR.on xM (j:=3) (by omega);have FH:=cN hC xM h3;rw[oW]at FH)
  |(go_at_call 150;refine KB.mono ?_;rintro e w9 ⟨rfl,xN⟩))
 go_end0
 exact⟨rfl,by rw[HG.out];exact xN⟩
set_option maxRecDepth 20000 in
set_option maxHeartbeats 2000000 in
theorem NF (hC:Ctx w0 p f)(h:cd w0 x f w m)(hR:Row w0 ws gw)(hn:ws.length=4)(h1:Wd p (word ws 1))(h2:Wd p (word ws 2))(h3:Wd p (word ws 3))(h0:word ws 0=[115,117,98])(ho:((m.bE (sp p (word ws 2))).bE (sp p (word ws 3))).out=0):
  Calls Tryz.prog 151 #[.pointer (some ⟨x,0,none⟩),.slice (some ⟨gw,0,none⟩) ws.length cw] w fun e w'=>e=.returned (.tuple #[])/\cd w0 x f w' (m.arith p ws):=by
 have Js:((((m.bE (sp p (word ws 2))).bE (sp p (word ws 3))).out:Nat):Int)=0:=by omega
 have HG:Hid (m.arith p ws=((m.bE (sp p (word ws 2))).bE (sp p (word ws 3))).be (sp p (word ws 1)) (wrap64 (m.int (sp p (word ws 2))-m.int (sp p (word ws 3))))):=by unfold Hid RM.arith;rw[h0];simp only;rw[ja (by rw[ho];decide),ja (fun e=>absurd e.1 (by decide))];rfl
 have la:(ws.length:Int)=4:=by omega
 have xX:=hR.on h (j:=2) (by omega);have Qk:=cN hC h h2;go_enter Tryz.func151,Tryz.ntmps151
 go_wp2_with (first
  |(go_at_call 147;refine FH.mono ?_;rintro e w2 ⟨rfl,vb2,vt2,eR⟩;obtain⟨c0,c1,c2,c3,c4,c5,c6,c7,c8,c9⟩:=eR.facts;obtain⟨f1,f2,f3,f4,f5,f6⟩:=eR.eB;rw[Js]at c8;have y0:=hR.at eR (j:=0) (by omega);rw[h0]at y0;have y1:=hR.at eR (j:=1) (by omega);have KB:=qE hC ⟨_,_,eR⟩ h1 (wrap64 (m.int (sp p (word ws 2))-m.int (sp p (word ws 3)))))
  |(go_at_call 147;refine Qk.mono ?_;rintro e w1 ⟨rfl,xM⟩;have hz3:=hR.on xM (j:=3) (by omega);have FH:=cN hC xM h3;rw[oW]at FH)
  |(go_at_call 150;refine KB.mono ?_;rintro e w9 ⟨rfl,xN⟩))
 go_end0
 exact⟨rfl,by rw[HG.out];exact xN⟩
set_option maxRecDepth 20000 in
set_option maxHeartbeats 2000000 in
theorem NC (hC:Ctx w0 p f)(h:cd w0 x f w m)(hR:Row w0 ws gw)(hn:ws.length=4)(h1:Wd p (word ws 1))(h2:Wd p (word ws 2))(h3:Wd p (word ws 3))(h0:word ws 0=[109,117,108])(ho:((m.bE (sp p (word ws 2))).bE (sp p (word ws 3))).out=0):
  Calls Tryz.prog 151 #[.pointer (some ⟨x,0,none⟩),.slice (some ⟨gw,0,none⟩) ws.length cw] w fun e w'=>e=.returned (.tuple #[])/\cd w0 x f w' (m.arith p ws):=by
 have Js:((((m.bE (sp p (word ws 2))).bE (sp p (word ws 3))).out:Nat):Int)=0:=by omega
 have HG:Hid (m.arith p ws=((m.bE (sp p (word ws 2))).bE (sp p (word ws 3))).be (sp p (word ws 1)) (wrap64 (m.int (sp p (word ws 2))*m.int (sp p (word ws 3))))):=by unfold Hid RM.arith;rw[h0];simp only;rw[ja (by rw[ho];decide),ja (fun e=>absurd e.1 (by decide))];rfl
 have la:(ws.length:Int)=4:=by omega
 have xX:=hR.on h (j:=2) (by omega);have Qk:=cN hC h h2;go_enter Tryz.func151,Tryz.ntmps151
 go_wp2_with (first
  |(go_at_call 147;refine FH.mono ?_;rintro e w2 ⟨rfl,vb2,vt2,eR⟩;obtain⟨c0,c1,c2,c3,c4,c5,c6,c7,c8,c9⟩:=eR.facts;obtain⟨f1,f2,f3,f4,f5,f6⟩:=eR.eB;rw[Js]at c8;have y0:=hR.at eR (j:=0) (by omega);rw[h0]at y0;have y1:=hR.at eR (j:=1) (by omega);have KB:=qE hC ⟨_,_,eR⟩ h1 (wrap64 (m.int (sp p (word ws 2))*m.int (sp p (word ws 3)))))
  |(go_at_call 147;refine Qk.mono ?_;rintro e w1 ⟨rfl,xM⟩;have hz3:=hR.on xM (j:=3) (by omega);have FH:=cN hC xM h3;rw[oW]at FH)
  |(go_at_call 150;refine KB.mono ?_;rintro e w9 ⟨rfl,xN⟩))
 go_end0
 exact⟨rfl,by rw[HG.out];exact xN⟩
set_option maxRecDepth 20000 in
set_option maxHeartbeats 2000000 in
theorem NB (hC:Ctx w0 p f)(h:cd w0 x f w m)(hR:Row w0 ws gw)(hn:ws.length=4)(h1:Wd p (word ws 1))(h2:Wd p (word ws 2))(h3:Wd p (word ws 3))(h0:word ws 0=[100,105,118])(ho:((m.bE (sp p (word ws 2))).bE (sp p (word ws 3))).out=0)(hd:¬m.int (sp p (word ws 3))=0):
  Calls Tryz.prog 151 #[.pointer (some ⟨x,0,none⟩),.slice (some ⟨gw,0,none⟩) ws.length cw] w fun e w'=>e=.returned (.tuple #[])/\cd w0 x f w' (m.arith p ws):=by
 have Js:((((m.bE (sp p (word ws 2))).bE (sp p (word ws 3))).out:Nat):Int)=0:=by omega
 have HG:Hid (m.arith p ws=((m.bE (sp p (word ws 2))).bE (sp p (word ws 3))).be (sp p (word ws 1)) (wrap64 ((m.int (sp p (word ws 2))).tdiv (m.int (sp p (word ws 3)))))):=by unfold Hid RM.arith;rw[h0];simp only;rw[ja (by rw[ho];decide),ja (fun e=>hd e.2)];rfl
 have la:(ws.length:Int)=4:=by omega
 have xX:=hR.on h (j:=2) (by omega);have Qk:=cN hC h h2;go_enter Tryz.func151,Tryz.ntmps151
 go_wp2_with (first
  |(go_at_call 147;refine FH.mono ?_;rintro e w2 ⟨rfl,vb2,vt2,eR⟩;obtain⟨c0,c1,c2,c3,c4,c5,c6,c7,c8,c9⟩:=eR.facts;obtain⟨f1,f2,f3,f4,f5,f6⟩:=eR.eB;rw[Js]at c8;have y0:=hR.at eR (j:=0) (by omega);rw[h0]at y0;have y1:=hR.at eR (j:=1) (by omega);have KB:=qE hC ⟨_,_,eR⟩ h1 (wrap64 ((m.int (sp p (word ws 2))).tdiv (m.int (sp p (word ws 3))))))
  |(go_at_call 147;refine Qk.mono ?_;rintro e w1 ⟨rfl,xM⟩;have hz3:=hR.on xM (j:=3) (by omega);have FH:=cN hC xM h3;rw[oW]at FH)
  |(go_at_call 150;refine KB.mono ?_;rintro e w9 ⟨rfl,xN⟩))
 go_end0
 exact⟨rfl,by rw[HG.out];exact xN⟩
set_option maxRecDepth 20000 in
set_option maxHeartbeats 2000000 in
theorem JF (hC:Ctx w0 p f)(h:cd w0 x f w m)(hR:Row w0 ws gw)(hn:ws.length=4)(h2:Wd p (word ws 2))(h3:Wd p (word ws 3))(h0:word ws 0=[100,105,118])(ho:((m.bE (sp p (word ws 2))).bE (sp p (word ws 3))).out=0)(hd:m.int (sp p (word ws 3))=0):
  Calls Tryz.prog 151 #[.pointer (some ⟨x,0,none⟩),.slice (some ⟨gw,0,none⟩) ws.length cw] w fun e w'=>e=.returned (.tuple #[])/\cd w0 x f w' (m.arith p ws):=by
 have Js:((((m.bE (sp p (word ws 2))).bE (sp p (word ws 3))).out:Nat):Int)=0:=by omega
 have HG:Hid (m.arith p ws={(m.bE (sp p (word ws 2))).bE (sp p (word ws 3))with out:=4}):=by unfold Hid RM.arith;rw[h0];simp only;rw[ja (by rw[ho];decide),jb ⟨rfl,hd⟩]
 have la:(ws.length:Int)=4:=by omega
 have xX:=hR.on h (j:=2) (by omega);have Qk:=cN hC h h2;go_enter Tryz.func151,Tryz.ntmps151
 go_wp2_with (first
  |(go_at_call 147;refine FH.mono ?_;rintro e w2 ⟨rfl,vb2,vt2,eR⟩;obtain⟨c0,c1,c2,c3,c4,c5,c6,c7,c8,c9⟩:=eR.facts;obtain⟨f1,f2,f3,f4,f5,f6⟩:=eR.eB;rw[Js]at c8;have y0:=hR.at eR (j:=0) (by omega);rw[h0]at y0;have qt:=eR.tG 4)
  |(go_at_call 147;refine Qk.mono ?_;rintro e w1 ⟨rfl,xM⟩;have hz3:=hR.on xM (j:=3) (by omega);have FH:=cN hC xM h3;rw[oW]at FH))
 try simp only[Exit.inBlock,Exit.then]
 refine bodyPost_ret (results_none rfl _ _ _) rfl ?_;exact⟨rfl,by rw[HG.out];exact⟨_,_,qt⟩⟩
theorem rR (hC:Ctx w0 p f)(h:cd w0 x f w m)(hR:Row w0 ws gw)(hn:ws.length=4)(h1:Wd p (word ws 1))(h2:Wd p (word ws 2))(h3:Wd p (word ws 3))(h0:word ws 0=yq\/word ws 0=yt\/word ws 0=yr\/word ws 0=sB):
  Calls Tryz.prog 151 #[.pointer (some ⟨x,0,none⟩),.slice (some ⟨gw,0,none⟩) ws.length cw] w fun e w'=>e=.returned (.tuple #[])/\cd w0 x f w' (m.arith p ws):=by
 by_cases ho:((m.bE (sp p (word ws 2))).bE (sp p (word ws 3))).out=0
 ·rcases h0 with h0|h0|h0|h0
  ·exact NA hC h hR hn h1 h2 h3 h0 ho
  ·exact NF hC h hR hn h1 h2 h3 h0 ho
  ·exact NC hC h hR hn h1 h2 h3 h0 ho
  ·by_cases hd:m.int (sp p (word ws 3))=0
   ·exact JF hC h hR hn h2 h3 h0 ho hd
   ·exact NB hC h hR hn h1 h2 h3 h0 ho hd
 ·exact ND hC h hR hn h2 h3 ho
end
end Mac
end Go.Proofs.YtmlgajhhnojdjaaGreatDoor

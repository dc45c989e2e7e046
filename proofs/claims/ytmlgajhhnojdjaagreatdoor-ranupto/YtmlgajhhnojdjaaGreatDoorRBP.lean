import Derived.Test.YtmlgajhhnojdjaaGreatDoorRAS
import Derived.Test.YtmlgajhhnojdjaaGreatDoorRBM
import Derived.Test.YtmlgajhhnojdjaaGreatDoorRBO
namespace Go.Proofs.YtmlgajhhnojdjaaGreatDoor
namespace Sim
open Go Sq Aux Go.Proofs.YtmlgajhhnojdjaaGreatDoor.Own Mac PrjS FlwA FlwU FlwV FlwX FlwT
def Vw:B->List B->Int->Int
 |[],_,d=>d
 |c::f,ws,d=>Vw f (ws.drop 1) (if c=35\/c=118 then kW (word ws 0)else d)
def MP:B->List B->Int->Int
 |[],_,d=>d
 |c::f,ws,d=>MP f (ws.drop 1) (if c=102 then(az (word ws 0)).getD 0 else d)
theorem kN (ls:List (B×Nat))(nb:Nat):∀(f:B) (ws:List B) (l r:aa),cY ls nb f ws l=some r->r.number=Vw f ws l.number/\r.flag=MP f ws l.flag
 |[],ws,l,r,h=>by rw[cY]at h;cases h;exact⟨rfl,rfl⟩
 |c::f,ws,l,r,h=>by
  rw[cY]at h;rw[Vw,MP];by_cases h1:c=35\/c=118
  ·have h2:¬c=102:=by rintro rfl;revert h1;decide
   rw[jb h1]at h⊢;rw[ja h2];have:=kN ls nb f (ws.drop 1) _ r h;rw[se]at this;exact this
  ·rw[ja h1]at h⊢;by_cases h2:c=102
   ·rw[jb h2]at h⊢;exact kN ls nb f (ws.drop 1) _ r h
   ·rw[ja h2]at h⊢;split at h
    ·split at h
     ·cases h
     ·have:=kN ls nb f (ws.drop 1) _ r h;exact this
    ·split at h
     ·cases h
     ·have:=kN ls nb f (ws.drop 1) _ r h;exact this
theorem BF (p:RP):∀(f:B) (_:∀c∈f,gP c=false) (ws:List B),p.dt f ws=[]
 |[],_,_=>rfl
 |c::f,h,ws=>by rw[RP.dt,h c (jM ..)];exact BF p f (fun x hx=>h x (jN _ hx)) _
theorem BE (p:RP)(C:B)(hC:∀c∈C,gP c=false):∀(A:B) (_:∀c∈A,gP c=true) (ws:List B),(p.dt (A++C) ws).length=A.length/\∀j,j<A.length->(p.dt (A++C) ws).getD j (0,0)=p.pj (word ws j)
 |[],_,ws=>by rw[List.nil_append,BF p C hC];exact⟨rfl,fun j hj=>absurd hj (Nat.not_lt_zero _)⟩
 |c::A,h,ws=>by
  obtain⟨h1,h2⟩:=BE p C hC A (fun x hx=>h x (jN _ hx)) (ws.drop 1);rw[jW,RP.dt,h c (jM ..),jb rfl];refine⟨by rw[jY,h1];rfl,fun j hj=> ?_⟩;cases j with
  |zero=>rfl
  |succ j=>rw[List.getD_cons_succ,h2 j (by simpa using hj),bV]
theorem Jf:∀op:Fin 23,(∀c∈(ae op.val).takeWhile gP,gP c=true)/\(∀c∈(ae op.val).dropWhile gP,gP c=false):=by decide
structure Lk (p:RP)(ws:List B)(l:aa):Prop where
 op:word ws 0=bI l.op
 lo:2<=l.op
 hi:l.op<23
 cP:l.places.length=((ae l.op).takeWhile gP).length
 pl:∀j,j<l.places.length->ah l j=p.pj (word ws (j+1))/\0<=p.find (ai (word ws (j+1)))/\bW (word ws (j+1))=true
 nm:l.op=2->l.number=kW (word ws 2)
 fl:l.op=17\/l.op=21->l.flag=kW (word ws 1)
 vl:l.op=17->(l.number==1)=(word ws 2==[49])
 n1:l.op=18->l.next.getD 0 0=(kW (word ws 1)).toNat
 n2:l.op=19\/l.op=20\/l.op=21->l.next.getD 0 0=(kW (word ws 2)).toNat/\l.next.getD 1 0=(kW (word ws 3)).toNat
theorem iD:∀(f:B) (ws:List B) (k:Nat) (hk:k<f.length),bg f ws=true->jo (word ws k) f[k]=true
 |c::f,ws,0,_,h=>by rw[bg,jH]at h;exact h.1
 |c::f,ws,k+1,hk,h=>by
  rw[bg,jH]at h;have:=iD f (ws.drop 1) k (by simpa using hk) h.2
  rwa [bV]at this
theorem yK {w:B}(h:jo w 102=true):(az w).getD 0=kW w:=by
 have h1:(match az w with|some n=>decide (n<50)|none=>false)=true:=h;have h2:=pA w;unfold kW;cases hn:number w with
 |none=>rw[hn]at h2;simp only at h2;rw[h2]
 |some n=>
  rw[hn]at h2;simp only at h2;split at h2
  ·rw[h2]
  ·rw[h2]at h1;cases h1
theorem lk_of {p:RP}(H:tL p){i:Nat}(hi:i<p.lines.length)(hp:p.plain i=true)(hn:p.names i=true):Lk p (p.line i) (p.aG i):=by
 obtain⟨op,ho,hl,h2,aw,-,gK,mP,hf,hb,Kn⟩:=kS H hi hp hn;have hs:p.eL i=(op,(p.line i).drop 1):=by rw[RP.eL,ho];rfl
 have AZ:=tu H hi hp;rw[hn]at AZ;obtain⟨l,RD⟩:=Option.isSome_iff_exists.mp AZ;have hq:p.aG i={l with num:=i}:=by rw[RP.aG,RD];rfl
 rw[hs,ey]at RD;obtain⟨Cp,ZU⟩:=kN _ _ _ _ _ _ RD;have Wm:(p.aG i).number=Vw (ae op) ((p.line i).drop 1) 0:=by rw[hq];exact Cp
 have XB:(p.aG i).flag=MP (ae op) ((p.line i).drop 1) 0:=by rw[hq];exact ZU
 obtain⟨s1,s2⟩:=Jf ⟨op,hl⟩;have XQ:=BE p _ s2 _ s1 ((p.line i).drop 1);simp only at XQ;rw[List.takeWhile_append_dropWhile]at XQ;have W:∀k,word ((p.line i).drop 1) k=word (p.line i) (k+1):=bV _;refine⟨by rw[aw];exact(gd ho).2,by rw[aw];exact h2,by rw[aw];exact hl,by rw[gK,aw];exact XQ.1,?_,?_,?_,?_,?_,?_⟩
 ·intro j hj;rw[gK,XQ.1]at hj;have ot:j<(ae op).length:=jK hj (List.takeWhile_sublist _).length_le;have hc:gP (ae op)[j]=true:=by
   have e:((ae op).takeWhile gP)[j]=(ae op)[j]:=(List.takeWhile_prefix gP).getElem hj;rw[<-e];exact s1 _ (jL hj)
  have AW:=iD _ _ j ot hf;refine⟨?_,?_,?_⟩
  ·rw[ah,gK,XQ.2 j hj,W]
  ·have et:¬word (p.line i) 0=cv:=by
    simp only[RP.plain,isLet,Bool.and_eq_true,Bool.not_eq_true',beq_eq_false_iff_ne,ne_eq]at hp;exact hp.1
   have key:∀op:Fin 23,∀j:Fin 3,j.val<(ae op.val).length->gP ((ae op.val).getD j.val 0)=true->j.val<(cq op.val).length/\(cq op.val).getD j.val 0∈[(105:UInt8),112,109,111,100]:=by decide
   have h3:∀op:Fin 23,(ae op.val).length<=3:=by decide
   have hk:=key ⟨op,hl⟩ ⟨j,jK ot (h3 ⟨op,hl⟩)⟩ ot (by rw[jA,jB ot];exact hc);have B7:j<(behind (word (p.line i) 0) p.raw).1.length:=by rw[hb];exact hk.1
   refine RP.iv hn et j B7 ?_;have e:(behind (word (p.line i) 0) p.raw).1[j]=(cq op).getD j 0:=by
    rw[jA,<-hb,jB B7];rfl
   rw[e];exact hk.2
  ·have:=gz hc AW
   rwa [W]at this
 ·intro e;rw[aw]at e;subst e;rw[Wm];show kW (word (((p.line i).drop 1).drop 1) 0)=_
  rw[bV,W]
 ·intro e;rw[aw]at e;rw[XB];rcases e with e|e<;>subst e
  ·show(az (word ((p.line i).drop 1) 0)).getD 0=_
   rw[yK (iD _ _ 0 (by decide) hf),W]
  ·show(az (word ((p.line i).drop 1) 0)).getD 0=_
   rw[yK (iD _ _ 0 (by decide) hf),W]
 ·intro e;rw[aw]at e;subst e;rw[Wm];have h1:=iD _ _ 1 (by decide) hf;rw[W]at h1;have h3:(word (p.line i) 2==[48]||word (p.line i) 2==[49])=true:=h1;show(kW (word (((p.line i).drop 1).drop 1) 0)==1)=_
  rw[bV,W];rw[Bool.or_eq_true,beq_iff_eq,beq_iff_eq]at h3;rcases h3 with h3|h3<;>rw[show word (p.line i) (1+1)=word (p.line i) 2 from rfl,h3]<;>decide
 ·intro e;rw[aw]at e;subst e;rw[mP];show((az (word ((p.line i).drop 1) 0)).getD 0).toNat=_
  rw[fH (iD _ _ 0 (by decide) hf),W];rfl
 ·intro e;rw[aw]at e;rw[mP];have hA:∀f:B,ae op=f->(∃c,f=[c,98,98]/\¬c=98)->(jv (ae op) ((p.line i).drop 1)).getD 0 0=(kW (word (p.line i) 2)).toNat/\(jv (ae op) ((p.line i).drop 1)).getD 1 0=(kW (word (p.line i) 3)).toNat:=by
   rintro f Rt ⟨c,rfl,hc⟩;rw[Rt]at hf⊢;have h1:=iD _ _ 1 (by simp) hf;have h2:=iD _ _ 2 (by simp) hf;rw[W]at h1 h2;rw[jv,ja hc,jv,jb rfl,jv,jb rfl,jv];simp only[List.getD_cons_zero,List.getD_cons_succ,bV];exact⟨by rw[fH h1];rfl,by rw[fH h2];rfl⟩
  rcases e with e|e|e<;>subst e
  ·exact hA _ rfl ⟨105,rfl,by decide⟩
  ·exact hA _ rfl ⟨111,rfl,by decide⟩
  ·exact hA _ rfl ⟨102,rfl,by decide⟩
def rD (p:RP)(at':Nat):List aa:=((List.range' at' (p.lines.length-at')).takeWhile p.plain).map p.aG
section
variable {text:B} {raw:Bool} {p:RP} {q:QP}
theorem tail_cons {i:Nat}(h:p.body i):rD p i=p.aG i::rD p (i+1):=by
 have hp:p.plain i=true:=dX.mpr h.2;have h1:=h.1;unfold rD;rw[show p.lines.length-i=(p.lines.length-(i+1))+1 by omega,List.range'_succ,List.takeWhile_cons,jb hp];rfl
theorem JQ (p:RP)(i:Nat):∀d,p.ec i<=p.ec (i+d)
 |0=>jC _
 |d+1=>by have:=JQ p i d;rw[<-Nat.add_assoc,p.du];omega
theorem Gh (p:RP)(j:Nat):∀(n k:Nat),j+1<p.ec k->((List.range' k n).filter p.plain).filter (fun i=>p.ec i==j+1)=[]
 |0,_,_=>rfl
 |n+1,k,h=>by
  rw[List.range'_succ];have ih:=Gh p j n (k+1) (by have:=JQ p k 1;omega);by_cases hp:p.plain k=true
  ·rw[List.filter_cons,jb hp,List.filter_cons,ja (by simp;omega)];exact ih
  ·rw[List.filter_cons,ja hp];exact ih
theorem MK (p:RP)(j:Nat):∀(n k:Nat),p.ec (k+n)<=j+1->(∀i,k<=i->i<k+n->p.ec i=j+1->p.plain i=false)->((List.range' k n).filter p.plain).filter (fun i=>p.ec i==j+1)=[]
 |0,_,_,_=>rfl
 |n+1,k,h,h2=>by
  rw[List.range'_succ];have ih:=MK p j n (k+1) (by rw[show k+1+n=k+(n+1) by omega];exact h) (fun i h3 h4=>h2 i (by omega) (by omega));by_cases hp:p.plain k=true
  ·rw[List.filter_cons,jb hp,List.filter_cons,ja ?_]
   ·exact ih
   ·intro e;have:=h2 k (jC _) (by omega) (by simpa using e);rw[hp]at this;cases this
  ·rw[List.filter_cons,ja hp];exact ih
theorem C7 (H:aE text raw p)(j:Nat):∀(n k:Nat),k+n=p.lines.length->p.ec k=j+1->((List.range' k n).filter p.plain).filter (fun i=>p.ec i==j+1)=(List.range' k n).takeWhile p.plain
 |0,_,_,_=>rfl
 |n+1,k,h,hc=>by
  rw[List.range'_succ,List.takeWhile_cons];by_cases hp:p.plain k=true
  ·have hB:=(dX.mp hp).2;have tj:p.ec (k+1)=j+1:=by rw[p.du,hB];simpa using hc
   rw[List.filter_cons,jb hp,List.filter_cons,jb (by simp[hc]),jb hp,C7 H j n (k+1) (by omega) tj]
  ·rw[ja hp,List.filter_cons,ja hp];have hl:=H.pO (i:=k) (by omega) (by omega);have hB:al (p.line k)=true:=by
    cases hb:al (p.line k)with
    |true=>rfl
    |false=>exact absurd (dX.mpr ⟨hl,hb⟩) hp
   exact Gh p j n (k+1) (by rw[p.du,hB];simp;omega)
theorem JN (h:fi text raw p q){j:Nat}(hj:j<p.blocks.length):q.blocks.getD j []=rD p (p.blocks.getD j 0+1):=by
 rw[h.block j,rD,vE];obtain⟨h1,h2,h3⟩:=RP.ki h.ok.pre.blocks hj;congr 1;generalize p.blocks.getD j 0=b at*;have hr:List.range p.lines.length=List.range' 0 (b+1)++List.range' (b+1) (p.lines.length-(b+1)):=by
  have:=List.range'_append_1 (s:=0) (m:=b+1) (n:=p.lines.length-(b+1));rw[Nat.zero_add]at this;rw[this,List.range_eq_range'];congr 1;omega
 have hc:p.ec (b+1)=j+1:=by rw[p.du,h2,h3];rfl
 rw[hr,List.filter_append,List.filter_append,C7 h.ok j _ (b+1) (by omega) hc];have:((List.range' 0 (b+1)).filter p.plain).filter (fun i=>p.ec i==j+1)=[]:=by
  refine MK p j (b+1) 0 (by rw[Nat.zero_add,hc];exact jC _) (fun i _ hi e=> ?_);have:=JQ p i (b-i);rw[show i+(b-i)=b by omega]at this;omega
 rw[this,List.nil_append]
end
end Sim
namespace Sim
open Go Sq Aux Go.Proofs.YtmlgajhhnojdjaaGreatDoor.Own Mac Ex RefRa PrjS FlwA FlwU FlwV FlwX FlwT
theorem F6 (n:Nat):pz n=Lib.decDigits n:=by
 induction n using Nat.strongRecOn with
 |ind n ih=>
  rw[pz,Lib.decDigits];by_cases h:n<=9
  ·rw[dif_pos h,dif_pos (by omega)];rfl
  ·rw[dif_neg h,dif_neg (by omega),ih (n/10) (by omega)];rfl
theorem Ox (n:Int):ss n=Lib.itoa n:=by
 unfold ss Lib.itoa;split
 ·rw[F6]
 ·rw[F6,show n.natAbs=n.toNat by omega]
theorem G8:∀(l:List B) (w:B),Lib.join (l++[w]) [32]=if l=[]then w else Lib.join l [32]++32::w
 |[],w=>by rw[List.nil_append,Lib.join_one,jb rfl]
 |[a],w=>by rw[ja (by simp),Lib.join_one];simp[Lib.join,List.intercalate,List.intersperse]
 |a::b::l,w=>by
  have ih:=G8 (b::l) w;rw[ja (by simp)]at ih⊢;have e1:∀r:List B,Lib.join (a::b::r) [32]=a++32::Lib.join (b::r) [32]:=fun r=>by simp[Lib.join,List.intercalate,List.intersperse]
  rw[jW,jW,e1,<-jW,ih,e1];simp
structure Ry (y:Yd)(m:RM):Prop where
 made:y.made=m.boxes
 live:y.live=m.count
 text:m.trace=y.text
 words:∀b∈y.trace,b≠[]
section
variable {y:Yd} {m:RM}
theorem Ry.nil (h:Ry y m):m.trace=[]↔y.trace=[]:=by
 rw[h.text,Yd.text];constructor
 ·intro e;by_cases hn:y.trace=[]
  ·exact hn
  ·exact absurd e (Bal.zO _ hn h.words)
 ·intro e;rw[e];rfl
theorem Ry.note (h:Ry y m)(c:UInt8)(n:Int):Ry (y.note c n) (m.note c n):=by
 refine⟨h.made,h.live,?_,fun b hb=> ?_⟩
 ·show m.trace++pg m c n=Lib.join (y.trace++[c::Lib.itoa n]) [32]
  rw[G8,pg,Ox];by_cases e:y.trace=[]
  ·rw[jb e,jb (h.nil.2 e),h.nil.2 e];rfl
  ·rw[ja e,ja (fun x=>e (h.nil.1 x)),h.text];rfl
 ·rcases List.mem_append.1 hb with hb|hb
  ·exact h.words b hb
  ·rw[jI.1 hb];simp
theorem Ry.at (h:Ry y m)(n:Nat):y.at n=m.box n:=by rw[Yd.at,RM.box,h.made]
theorem Ry.free (h:Ry y m)(n:Nat):Ry (y.free n) (RM.note {m with boxes:=m.boxes.set (n-1) ((m.box n).1,false),count:=m.count-1} 45 ((n:Nat):Int)):=by
 have h1:Ry {y with made:=y.made.set (n-1) ((y.at n).1,false),live:=y.live-1} {m with boxes:=m.boxes.set (n-1) ((m.box n).1,false),count:=m.count-1}:=⟨by rw[h.made,h.at],by rw[h.live],h.text,h.words⟩;exact h1.note 45 _
theorem Ry.build (h:Ry y m)(v:Int):Ry (y.build v) (RM.note {m with boxes:=m.boxes++[(v,true)],count:=m.count+1} 43 ((m.boxes.length+1:Nat):Int)):=by
 have h1:Ry {y with made:=y.made++[(v,true)],live:=y.live+1} {m with boxes:=m.boxes++[(v,true)],count:=m.count+1}:=⟨by rw[h.made],by rw[h.live],h.text,h.words⟩;have h2:=h1.note 43 ((m.boxes.length+1:Nat):Int);rw[Yd.build,h.made];rw[h.made]at h2;exact h2
theorem Ry.load (h:Ry y m)(n:Nat):Ry (y.load n) (m.note 60 ((n:Nat):Int)):=h.note 60 _
theorem Ry.store (h:Ry y m)(n:Nat)(v:Int):Ry (y.store n v) {m.note 62 ((n:Nat):Int)with boxes:=m.boxes.set (n-1) (v,(m.box n).2)}:=by
 have h1:=h.note 62 ((n:Nat):Int);exact⟨by show y.made.set _ _=_;rw[h.made,h.at],h1.live,h1.text,h1.words⟩
theorem Ry.of (h:Ry y m){m':RM}(h1:m'.boxes=m.boxes)(h2:m'.count=m.count)(h3:m'.trace=m.trace):Ry y m':=⟨by rw[h1];exact h.made,by rw[h2];exact h.live,by rw[h3];exact h.text,h.words⟩
end
theorem cI {α:Type}(s:List α)(i:Nat)(y d:α)(k:Nat):(s.set i y).getD k d=if i=k/\k<s.length then y else s.getD k d:=by
 rw[jA,jd,jA];by_cases h:i=k
 ·subst h;by_cases h2:i<s.length
  ·rw[jb rfl,jb h2,jb ⟨rfl,h2⟩];rfl
  ·rw[jb rfl,ja h2,ja (fun e=>h2 e.2),jG (by omega)]
 ·rw[ja h,ja (fun e=>h e.1)]
section
variable {q:QP} {ak:List Int} {b:Br} {m:RM} {pl:Nat×Nat}
end
end Sim
namespace Sim
open Go Sq Aux Go.Proofs.YtmlgajhhnojdjaaGreatDoor.Own Mac Ex RefRa RunB PrjS FlwA FlwU FlwV FlwW FlwX FlwT
section
variable {text:B} {raw:Bool} {p:RP} {q:QP} {w:B}
theorem lO (p:RP)(w:B):ag (p.pj w)=sp p w:=by
 unfold ag RP.pj sp RP.aj;simp only;by_cases h:partOf w=98
 ·rw[jb (vZ.2 h),jb h]
 ·rw[ja (fun e=>h (vZ.1 e)),ja h];split<;>rfl
theorem dA (x:Nat×Nat):ag x/2=x.1:=by unfold ag;split<;>omega
theorem VJ (h:fi text raw p q)(hf:0<=p.find (ai w))(hp:bW w=true):(p.typeOf w=cj↔((p.pj w).2=0/\q.bA (p.pj w).1=2))/\(p.typeOf w=eG↔((p.pj w).2=0/\q.bA (p.pj w).1=3)):=by
 have T:=zD h;obtain⟨j,hj,ot,-⟩:=RP.ez hf;have qu:p.j5 w=p.lS.bA (p.pj w).1:=by
  unfold RP.j5 dT.bA RP.lS RP.ra RP.pj;rw[hj];simp only[Int.toNat_natCast];rw[jA,jA,jJ,jB ot];rfl
 have AY:=lK hp;have e2:(p.pj w).2=iy (partOf w):=rfl;rw[T.pair,T.opt,<-qu,e2];unfold RP.typeOf;rcases AY with e|e|e|e<;>rw[e]
 ·rw[ja (by decide),ja (by decide)];exact⟨⟨fun x=>⟨rfl,x⟩,fun x=>x.2⟩,⟨fun x=>⟨rfl,x⟩,fun x=>x.2⟩⟩
 ·rw[jb (.inl rfl)];exact⟨⟨fun x=>(by split at x<;>exact absurd x (by decide)),fun x=>absurd x.1 (by decide)⟩,⟨fun x=>(by split at x<;>exact absurd x (by decide)),fun x=>absurd x.1 (by decide)⟩⟩
 ·rw[jb (.inr rfl)];exact⟨⟨fun x=>(by split at x<;>exact absurd x (by decide)),fun x=>absurd x.1 (by decide)⟩,⟨fun x=>(by split at x<;>exact absurd x (by decide)),fun x=>absurd x.1 (by decide)⟩⟩
 ·rw[ja (by decide),jb (by decide)];exact⟨⟨fun x=>(by split at x<;>exact absurd x (by decide)),fun x=>absurd x.1 (by decide)⟩,⟨fun x=>(by split at x<;>exact absurd x (by decide)),fun x=>absurd x.1 (by decide)⟩⟩
theorem yj (h:fi text raw p q)(hf:0<=p.find (ai w))(hp:bW w=true):(p.aj w).2=(QP.ab q (p.pj w)).length/\(QP.ab q (p.pj w)).map ag=List.range' (sp p w) (p.aj w).2:=by
 obtain⟨h1,-⟩:=VJ h hf hp;rw[<-lO];unfold RP.aj QP.ab;by_cases e:partOf w=98
 ·have e2:¬(p.pj w).2=0:=by show¬iy (partOf w)=0;rw[e];decide
  rw[jb e,ja (fun x=>e2 x.1)];exact⟨rfl,rfl⟩
 ·rw[ja e];by_cases e2:p.typeOf w=cj
  ·rw[jb e2,jb (h1.1 e2)];refine⟨rfl,?_⟩;unfold ag;simp only[List.map_cons,List.map_nil];rw[ja (by decide),jb trivial,ja (by rw[(h1.1 e2).1];decide)];rfl
  ·rw[ja e2,ja (fun x=>e2 (h1.2 x))];exact⟨rfl,rfl⟩
end
section
variable {text:B} {p:RP} {q:QP} {l:aa} {ws:List B} {ak:List Int} {b:Br} {m:RM} {f:Fx}
theorem mF {i:Nat}(h:m.has.getD i false=true):m.bD i=m:=by unfold RM.bD;rw[jb h]
end
end Sim
namespace Sim
open Go Sq Aux Go.Proofs.YtmlgajhhnojdjaaGreatDoor.Own Mac Ex RefRa RunA RunB PrjS FlwA FlwU FlwV FlwW FlwX FlwT
section
variable {text:B} {p:RP} {q:QP} {l:aa} {ws:List B} {ak:List Int} {b:Br} {m:RM} {f:Fx}
theorem GD {x y:Nat×Nat}(h:q.br x=q.br y)(hx:x.2<=3)(hy:y.2<=3):(QP.ab q x).length=(QP.ab q y).length:=by
 have key:∀z:Nat×Nat,z.2<=3->((z.2=0/\q.bA z.1=2)↔q.br z=2):=fun z hz=>by
  unfold QP.br;split
  ·exact⟨fun e=>by omega,fun e=>by omega⟩
  ·exact⟨fun e=>e.2,fun e=>⟨by omega,e⟩⟩
 unfold QP.ab;by_cases e:x.2=0/\q.bA x.1=2
 ·rw[jb e,jb ((key y hy).2 (h▸(key x hx).1 e))];rfl
 ·rw[ja e,ja (fun e2=>e ((key x hx).2 (h.trans ((key y hy).1 e2))))];rfl
end
end Sim
namespace Sim
open Go Sq Aux Go.Proofs.YtmlgajhhnojdjaaGreatDoor.Own Mac Ex RefRa RunA RunB PrjS FlwA FlwU FlwV FlwW FlwX FlwT
theorem xf (f:Fx)(p:RP)(ak:List Int){m:RM}(h:¬m.out=0)(n at':Nat):eR f p ak n at' m=m:=by
 cases n with
 |zero=>rw[eR,ja h]
 |succ n=>rw[eR,jb h]
theorem zG:∀op:Fin 23,ends (bI op.val)=decide (18<=op.val):=by decide
theorem W9:∀op:Fin 23,bI op.val=[101,110,100]↔op.val=22:=by decide
section
variable {text:B} {raw:Bool} {p:RP} {q:QP} {l:aa} {ws:List B} {ak:List Int} {b:Br} {m:RM} {f:Fx}
theorem Sj (h:fi text raw p q){i:Nat}(hb:p.body i):p.aG i∈q.blocks.getD (p.aI i) []:=by
 rw[h.block,List.mem_map];refine⟨i,?_,rfl⟩;unfold vE;have:=(h.ok.bY hb).2;simp only[List.mem_filter,List.mem_range,beq_iff_eq];exact⟨⟨hb.1,dX.mpr hb.2⟩,by unfold RP.aI;omega⟩
theorem Ul (h:fi text raw p q){i:Nat}(hb:p.body i):Lk p (p.line i) (p.aG i):=lk_of h.ok.pre hb.1 (dX.mpr hb.2) (h.ok.names i hb.1)
def oo (p:RP)(at':Nat):Prop:=p.body at'\/(at'<p.lines.length/\al (p.line at')=true)
def mB (p:RP)(at':Nat):Nat:=if al (p.line at')then at'+1 else at'
theorem oo.line (h:aE text raw p){at':Nat}(hs:oo p at'):p.body (mB p at'):=by
 unfold mB;rcases hs with hb|⟨h1,h2⟩
 ·rw[hb.2.2,ja (by decide)];exact hb
 ·rw[jb h2];exact h.lE h1 h2
theorem xA {i:Nat}(hb:p.body i):mB p i=i:=by unfold mB;rw[hb.2.2,ja (by decide)]
theorem va (h:fi text raw p q){j:Nat}(hj:j<q.blocks.length):oo p (p.blocks.getD j 0)/\q.blocks.getD j []=rD p (mB p (p.blocks.getD j 0)):=by
 rw[h.len]at hj;obtain⟨h1,h2,-⟩:=RP.ki h.ok.pre.blocks hj;refine⟨.inr ⟨h1,h2⟩,?_⟩;unfold mB;rw[jb h2];exact JN h hj
end
end Sim
namespace Sim
open Go Sq Aux Go.Proofs.YtmlgajhhnojdjaaGreatDoor.Own Mac RefRa RunA RunB PrjS FlwA FlwB FlwC FlwD FlwE FlwG FlwH FlwJ FlwM FlwS FlwU FlwV FlwW FlwX FlwT
def Aj (c:UInt8):Nat:=if c=119 then 2 else if c=110 then 4 else if c=104 then 8 else 1
def s8 (q:QP)(m:RM)(k:Nat):Nat:=if q.bA (k/2)=0 then(if m.has.getD k false=true then 2 else 1)else Aj (m.aZ.getD k 0)
def iN (q:QP)(s:List Nat)(m:RM):Prop:=s.length=24/\∀k,k<24->¬s8 q m k&&&s.getD k 0=0
structure Ro (q:QP)(ak:List Int)(z:Int)(o:Own.Own)(m:RM):Prop where
 y:Ry o.yd m
 len:m.rM
 GV:o.ints.length=12
 Cd:o.boxes.length=24
 ints:∀i,i<12->q.bA i=0->o.ints.getD i 0=m.ints.getD (2*i) 0
 boxes:∀k,k<24->o.boxes.getD k 0=if q.bA (k/2)=0 then 0 else if m.aZ.getD k 0=119 then m.held.getD k 0 else 0
 pos:∀k,k<24->m.aZ.getD k 0=119->1<=m.held.getD k 0
 ak:o.ak=ak.drop m.used
 value:m.value=z
section
variable {q:QP} {ak:List Int} {z:Int} {o:Own.Own} {m m':RM} {s:List Nat} {p:RP} {w:B} {text:B}
theorem Al (h:iN q s m){c v:Nat}(h1:∀k,k<24->¬k=c->s8 q m' k=s8 q m k)(h2:c<24->¬s8 q m' c&&&v=0):iN q (s.set c v) m':=by
 refine⟨by simpa using h.1,fun k hk=> ?_⟩;rw[cI,h.1];by_cases e:c=k
 ·subst e;rw[jb ⟨rfl,hk⟩];exact h2 hk
 ·rw[ja (fun x=>e x.1),h1 k hk (fun x=>e x.symm)];exact h.2 k hk
theorem fV (h:iN q s m)(hl:m.aZ.length=24){c v:Nat}{ch:UInt8}(h1:m'.has=m.has)(h2:m'.aZ=m.aZ.set c ch)(ht:¬q.bA (c/2)=0)(hv:¬Aj ch&&&v=0):iN q (s.set c v) m':=by
 refine Al h (fun k hk hn=> ?_) (fun hc=> ?_)
 ·have e:(m.aZ.set c ch).getD k 0=m.aZ.getD k 0:=by rw[cI,ja (fun x=>hn x.1.symm)]
  unfold s8;rw[h1,h2,e]
 ·have e:(m.aZ.set c ch).getD c 0=ch:=by rw[cI,jb ⟨rfl,by omega⟩]
  unfold s8;rw[ja ht,h2,e];exact hv
theorem zB (h:iN q s m)(hl:m.has.length=24){c:Nat}(ht:q.bA (c/2)=0)(v:Int):iN q (s.set c 2) (m.be c v):=by
 refine Al h (fun k hk hn=> ?_) (fun hc=> ?_)
 ·have e:(m.has.set c true).getD k false=m.has.getD k false:=by rw[cI,ja (fun x=>hn x.1.symm)]
  unfold s8 RM.be;simp only;rw[e]
 ·have e:(m.has.set c true).getD c false=true:=by rw[cI,jb ⟨rfl,by omega⟩]
  unfold s8 RM.be;simp only;rw[jb ht,e];decide
theorem lU (h:iN q s m)(h1:m'.has=m.has)(h2:m'.aZ=m.aZ):iN q s m':=⟨h.1,fun k hk=>by unfold s8;rw[h1,h2];exact h.2 k hk⟩
theorem WV {u v a:Nat}(hl:yX u v)(hu:¬a&&&u=0):¬a&&&v=0:=fun hv=>hu (by
 rw[<-hl,Nat.and_or_distrib_left]at hv;apply Nat.eq_of_testBit_eq
 intro i;have:=congrArg (fun x=>x.testBit i) hv;simp only[Nat.testBit_or,Nat.testBit_and,Nat.zero_testBit]at this⊢
 revert this
 cases u.testBit i<;>cases a.testBit i<;>cases v.testBit i<;>simp)
theorem CT {t:List Nat}(h:iN q s m)(ht:t.length=24)(hl:la s t):iN q t m:=⟨ht,fun k hk=>WV (hl k hk) (h.2 k hk)⟩
theorem me (h:iN q s m){c:Nat}(hc:c<24)(ht:q.bA (c/2)=0)(xr:ju 2 (s.getD c 0)=false)(hs:s.getD c 0<16):m.has.getD c false=true:=by
 have:=h.2 c hc;unfold s8 at this;rw[jb ht]at this;split at this
 ·assumption
 ·exfalso;simp only[ju,Bool.not_eq_false',beq_iff_eq]at xr;refine this ?_;have key:∀v:Fin 16,v.val&&&(15-2)=0->1&&&v.val=0:=by decide
  exact key ⟨_,hs⟩ xr
theorem Ro.be (h:Ro q ak z o m){c i:Nat}(hi:i<12)(hc:c=2*i)(v:Int):Ro q ak z {o with ints:=o.ints.set i v} (m.be c v):=by
 refine⟨h.y.of rfl rfl rfl,⟨by simpa [RM.be]using h.len.ints,by simpa [RM.be]using h.len.has,h.len.held,h.len.aZ,h.len.flags⟩,by simpa using h.GV,h.Cd,fun j hj hjt=> ?_,h.boxes,h.pos,h.ak,h.value⟩;show(o.ints.set i v).getD j 0=(m.ints.set c v).getD (2*j) 0
 rw[cI,cI,h.GV,h.len.ints];by_cases e:i=j
 ·subst e;rw[jb ⟨rfl,hj⟩,jb ⟨hc,by omega⟩]
 ·rw[ja (fun x=>e x.1),ja (fun x=>e (by omega))];exact h.ints j hj hjt
theorem Ro.zu (h:Ro q ak z o m){y:Yd}(hy:Ry y m')(h1:m'.ints=m.ints)(h2:m'.has=m.has)(h3:m'.held=m.held)(h4:m'.aZ=m.aZ)(h5:m'.flags=m.flags)(h6:m'.used=m.used)(h7:m'.value=m.value):Ro q ak z {o with yd:=y} m':=
 ⟨hy,⟨by rw[h1];exact h.len.ints,by rw[h2];exact h.len.has,by rw[h3];exact h.len.held,by rw[h4];exact h.len.aZ,by rw[h5];exact h.len.flags⟩,h.GV,h.Cd,fun i hi ht=>by rw[h1];exact h.ints i hi ht,fun k hk=>by rw[h4,h3];exact h.boxes k hk,fun k hk=>by rw[h4,h3];exact h.pos k hk,by rw[h6];exact h.ak,by rw[h7];exact h.value⟩
theorem Ro.put (h:Ro q ak z o m){x:Nat×Nat}{k n hd:Nat}{ch:UInt8}(hx:ag x=k)(hk:k<24)(ht:¬q.bA (k/2)=0)(hn:n=if ch=119 then hd else 0)(hp:ch=119->1<=hd):Ro q ak z (o.sy x n) {m with held:=m.held.set k hd,aZ:=m.aZ.set k ch}:=by
 refine⟨h.y.of rfl rfl rfl,⟨h.len.ints,h.len.has,by simpa using h.len.held,by simpa using h.len.aZ,h.len.flags⟩,h.GV,by simpa [Own.sy]using h.Cd,h.ints,fun j hj=> ?_,fun j hj=> ?_,h.ak,h.value⟩
 ·show(o.boxes.set (ag x) n).getD j 0=if q.bA (j/2)=0 then 0 else if(m.aZ.set k ch).getD j 0=119 then(m.held.set k hd).getD j 0 else 0
  rw[cI,cI,cI,hx,h.Cd,h.len.aZ,h.len.held];by_cases e:k=j
  ·subst e;simp only[true_and,if_pos hk,if_neg ht];exact hn
  ·have en:¬(k=j/\j<24):=fun x=>e x.1
   simp only[if_neg en];exact h.boxes j hj
 ·show(m.aZ.set k ch).getD j 0=119->1<=(m.held.set k hd).getD j 0
  rw[cI,cI,h.len.aZ,h.len.held];by_cases e:k=j
  ·subst e;rw[jb ⟨rfl,hk⟩,jb ⟨rfl,hk⟩];exact hp
  ·rw[ja (fun x=>e x.1),ja (fun x=>e x.1)];exact h.pos j hj
theorem Ro.clear (h:Ro q ak z o m){x:Nat×Nat}{k:Nat}{ch:UInt8}(hx:ag x=k)(hc:¬ch=119):Ro q ak z (o.clear x) {m with aZ:=m.aZ.set k ch}:=by
 refine⟨h.y.of rfl rfl rfl,⟨h.len.ints,h.len.has,h.len.held,by simpa using h.len.aZ,h.len.flags⟩,h.GV,by simpa [Own.clear]using h.Cd,h.ints,fun j hj=> ?_,fun j hj=> ?_,h.ak,h.value⟩
 ·show(o.boxes.set (ag x) 0).getD j 0=if q.bA (j/2)=0 then 0 else if(m.aZ.set k ch).getD j 0=119 then m.held.getD j 0 else 0
  rw[cI,cI,hx,h.Cd,h.len.aZ];by_cases e:k=j
  ·subst e;simp only[true_and,if_pos hj,if_neg hc];split<;>rfl
  ·have en:¬(k=j/\j<24):=fun x=>e x.1
   simp only[if_neg en];exact h.boxes j hj
 ·show(m.aZ.set k ch).getD j 0=119->_
  rw[cI,h.len.aZ];by_cases e:k=j
  ·subst e;rw[jb ⟨rfl,hj⟩];exact fun x=>absurd x hc
  ·rw[ja (fun x=>e x.1)];exact h.pos j hj
theorem FQ {hs:List Nat}(hb:Bal.gx q hs o){k n:Nat}(hk:o.boxes.getD k 0=n)(hn:1<=n):(o.yd.at n).2=true:=by
 have h1:=hb.y.WJ n hn;have h2:n∈hs++o.boxes:=by
  refine List.mem_append_right _ ?_;rw[<-hk,jA];cases e:o.boxes[k]? with
  |none=>rw[jA,e]at hk;simp at hk;omega
  |some v=>exact List.mem_of_getElem? e
 have h3:=List.count_pos_iff.2 h2;rw[h1]at h3;unfold Bal.Bf at h3;split at h3
 ·assumption
 ·omega
theorem drop_one (o:Own.Own)(x:Nat×Nat):o.drop [x]=(o.clear x).eN (o.box x):=rfl
theorem QQ (o:Own.Own)(x y:Nat×Nat):o.drop [x,y]=(o.drop [x]).drop [y]:=by
 show(((o.clear x).clear y).eN (o.box x)).eN ((o.clear x).box y)=(((o.clear x).eN (o.box x)).clear y).eN (((o.clear x).eN (o.box x)).box y)
 unfold Own.eN;by_cases e:o.box x=0
 ·rw[jb e,jb e]
 ·rw[ja e,ja e];rfl
theorem xG (m:RM)(c:UInt8)(k:Nat):(m.ed c k).aZ=m.aZ.set k c/\(m.ed c k).has=m.has/\(m.ed c k).held=m.held/\(m.ed c k).used=m.used:=by
 unfold RM.ed RM.free;simp only;split
 ·split<;>exact⟨rfl,rfl,rfl,rfl⟩
 ·exact⟨rfl,rfl,rfl,rfl⟩
theorem Ro.ed {hs:List Nat}(h:Ro q ak z o m)(hb:Bal.gx q hs o){x:Nat×Nat}{k:Nat}(hx:ag x=k)(hk:k<24)(ht:¬q.bA (k/2)=0){c:UInt8}(hc:¬c=119):Ro q ak z (o.drop [x]) (m.ed c k)/\(m.ed c k).out=m.out:=by
 have ke:o.box x=if m.aZ.getD k 0=119 then m.held.getD k 0 else 0:=by rw[Own.box,hx,h.boxes k hk,ja ht]
 have h1:=h.clear (x:=x) hx hc;rw[drop_one];unfold RM.ed;simp only;by_cases e:m.aZ.getD k 0=119
 ·rw[jb e]at ke⊢;have hp:=h.pos k hk e;have hl:=FQ hb (k:=k) (n:=m.held.getD k 0) (by rw[<-ke,Own.box,hx]) hp;have Ko:m.named k=m.held.getD k 0:=by
   unfold RM.named;rw[ja];rintro(e1|e1)
   ·omega
   ·rw[<-h.y.at,hl]at e1;cases e1
  rw[ke];unfold Own.eN RM.free;rw[ja (by omega),ja (by omega),Ko];exact⟨h1.zu (h1.y.free (m.held.getD k 0)) rfl rfl rfl rfl rfl rfl rfl,rfl⟩
 ·rw[ja e]at ke⊢;rw[ke];exact⟨h1,rfl⟩
theorem vM (w:B):¬dj w=119:=by unfold dj;split<;>decide
theorem Ba (w:B):Aj (dj w)=if partOf w=115 then 8 else 1:=by unfold dj;split<;>rfl
theorem ie {x:Nat×Nat}(hx:x.1<12):ag x<24:=by unfold ag;split<;>omega
theorem Ro.drop {hs:List Nat}(hT:fi text false p q)(hf:0<=p.find (ai w))(hp:bW w=true)(cf:(p.pj w).1<12)(ht:¬q.bA (p.pj w).1=0)(h:Ro q ak z o m)(hb:Bal.gx q hs o)(hB:iN q s m):
  Ro q ak z (o.drop (QP.ab q (p.pj w))) (m.drop p w)/\(m.drop p w).out=m.out/\iN q (dB (QP.ab q (p.pj w)) s) (m.drop p w):=by
 obtain⟨e1,-⟩:=yj hT hf hp;have es:=lO p w;have hh:=dA (p.pj w);have aK:=ie cf;have hl:=h.len.aZ;unfold RM.drop;rcases bH q (p.pj w)with⟨a1,-⟩|⟨a1,a2,a3⟩
 ·rw[a1]at e1⊢;rw[e1];show Ro q ak z _ (m.ed (dj w) (sp p w+0))/\(m.ed (dj w) (sp p w+0)).out=m.out/\_
  rw[Nat.add_zero,<-es];obtain⟨r1,r2⟩:=h.ed hb (x:=p.pj w) rfl aK (by rw[hh];exact ht) (vM w);obtain⟨k1,k2,-⟩:=xG m (dj w) (ag (p.pj w));refine⟨r1,r2,fV hB hl k2 k1 (by rw[hh];exact ht) ?_⟩;rw[Ba];by_cases e:partOf w=115
  ·rw[jb e,jb (show(p.pj w).2=3 from fw.2 e)];decide
  ·rw[ja e,ja (show¬(p.pj w).2=3 from fun x=>e (fw.1 x))];decide
 ·rw[a1]at e1⊢;rw[e1];have hpt:¬partOf w=115:=fun e=>by
   have:(p.pj w).2=3:=fw.2 e;omega
  have yU:sp p w=2*(p.pj w).1:=by rw[<-es];unfold ag;rw[ja (by omega)]
  show Ro q ak z _ ((m.ed (dj w) (sp p w+0)).ed (dj w) (sp p w+1))/\((m.ed (dj w) (sp p w+0)).ed (dj w) (sp p w+1)).out=m.out/\_
  rw[Nat.add_zero,yU];generalize (p.pj w).1=c at*;have s1:ag (c,1)=2*c:=by simp[ag]
  have s2:ag (c,2)=2*c+1:=by simp[ag]
  have t1:¬q.bA (2*c/2)=0:=by rw[show 2*c/2=c by omega];exact ht
  have t2:¬q.bA ((2*c+1)/2)=0:=by rw[show(2*c+1)/2=c by omega];exact ht
  obtain⟨r1,r2⟩:=h.ed hb s1 (by omega) t1 (vM w);have av:Bal.gx q hs (o.drop [(c,1)]):=Bal.oI [(c,1)] hb (fun x hx=>by rw[jI.1 hx,s1];omega);obtain⟨r3,r4⟩:=r1.ed av s2 (by omega) t2 (vM w);obtain⟨k1,k2,-⟩:=xG m (dj w) (2*c);obtain⟨k3,k4,-⟩:=xG (m.ed (dj w) (2*c)) (dj w) (2*c+1);rw[QQ];refine⟨r3,r4.trans r2,?_⟩;show iN q ((s.set (ag (c,1)) 1).set (ag (c,2)) 1) _
  rw[s1,s2];have hv:¬Aj (dj w)&&&1=0:=by rw[Ba,ja hpt];decide
  exact fV (fV hB hl k2 k1 t1 hv) (by rw[k1];simpa using hl) k4 k3 t2 hv
end
end Sim
end Go.Proofs.YtmlgajhhnojdjaaGreatDoor

import Derived.Test.YtmlgajhhnojdjaaGreatDoorUBF
namespace Go.Proofs.YtmlgajhhnojdjaaGreatDoor
namespace El
open Go Sq Aux RefRa PrjS
theorem tM {k:Nat}(h:k<=9):digit (Rf k)=true:=by
 unfold digit;rw[ss h];simp;omega
theorem Cq:∀(l r:B) (n:Int),cQ n (l++r)=(cQ n l).bind fun m=>cQ m r
 |[],_,_=>rfl
 |c::l,r,n=>by
  rw[jW,cQ,cQ];split
  ·split
   ·rfl
   ·exact Cq l r _
  ·rfl
theorem I9 (n:Nat)(hn:n<=1000000000):cQ 0 (mm n)=some (n:Int):=by
 induction n using Nat.strongRecOn with
 |ind n ih=>
  by_cases h:n<=9
  ·rw[po n h,cQ,jb (tM h),ss h];rw[ja (by omega)];show some _=some _
   congr 1;omega
  ·rw[tL n (by omega),Cq,ih (n/10) (by omega) (by omega)];show cQ _ _=_
   rw[cQ,jb (tM (by omega)),ss (by omega),ja (by omega)];show some _=some _
   congr 1;omega
theorem BT:∀n:Nat,∃c r,mm n=c::r/\digit c=true/\¬c=45/\(c=48->n=0/\r=[]):=fun n=>by
 induction n using Nat.strongRecOn with
 |ind n ih=>
  by_cases h:n<=9
  ·refine⟨Rf n,[],po n h,tM h,fun e=> ?_,fun e=>⟨?_,rfl⟩⟩
   ·have:=congrArg UInt8.toNat e;rw[ss h]at this;revert this;show¬48+n=45;omega
   ·have:=congrArg UInt8.toNat e;rw[ss h]at this;have:48+n=48:=this;omega
  ·obtain⟨c,r,e,h1,h2,h3⟩:=ih (n/10) (by omega);refine⟨c,r++[Rf (n%10)],by rw[tL n (by omega),e];rfl,h1,h2,fun e=> ?_⟩;have:=(h3 e).1;omega
theorem kG (n:Nat)(hn:n<=1000000000):aH (mm n)=some (n:Int):=by
 obtain⟨c,r,e,h1,-,h3⟩:=BT n;have hg:=I9 n hn;rw[e]at hg⊢;unfold aH;simp only;have zc:digit c=true/\¬(c=48/\c::r≠[48]):=⟨h1,fun hc=>hc.2 (by rw[hc.1,(h3 hc.1).2])⟩;rw[jb zc];exact hg
theorem zR (z:Int)(h: -1000000000<=z/\z<=1000000000):cX (j9 z)=some z:=by
 unfold j9;have hd:=kG z.natAbs (by omega);split
 ·unfold cX;simp only[if_true,hd];rw[ja (by omega)];congr 1;omega
 ·obtain⟨c,r,e,-,h2,-⟩:=BT z.natAbs;rw[e]at hd⊢;unfold cX;simp only[if_neg h2,hd];congr 1;omega
def iW (k:Nat):B:=if k=1 then [46,97]else if k=2 then [46,98]else if k=3 then [46,115]else []
def Ks (ls:List (B×Nat))(x:Nat×Nat):B:=(ls.getD x.1 ([],0)).1++iW x.2
theorem BS:∀(n r:B),(∀c∈n,¬c=46)->cf (n++r)=(n++(cf r).1,(cf r).2)
 |[],r,_=>rfl
 |c::n,r,h=>by
  rw[jW,cf,ja (h c (jM ..)),BS n r (fun x hx=>h x (jN _ hx))];rfl
theorem qA {n:B}(hn:∀c∈n,¬c=46){k:Nat}(hk:k<=3):bL (n++iW k)=some (n,k):=by
 unfold bL;rw[BS n _ hn];have:k=0\/k=1\/k=2\/k=3:=by omega
 rcases this with rfl|rfl|rfl|rfl<;>simp[iW,cf]
theorem BW:∀(ls:List (B×Nat)) (j k:Nat),(ls.map (·.1)).Nodup->j<ls.length->bz ls (ls.getD j ([],0)).1 k=((k+j:Nat):Int)
 |[],_,_,_,h=>by cases h
 |x::ls,0,k,_,_=>by show bz (x::ls) x.1 k=_;rw[bz,jb rfl];simp
 |x::ls,j+1,k,AK,h=>by
  have h':j<ls.length:=by simpa using h
  rw[List.map_cons,List.nodup_cons]at AK;have hm:(ls.getD j ([],0)).1∈ls.map (·.1):=List.mem_map.2 ⟨_,by rw[jA,jB h'];exact jL h',rfl⟩;show bz (x::ls) (ls.getD j ([],0)).1 k=_
  rw[bz,ja (fun e=>AK.1 (by rw[e];exact hm)),BW ls j (k+1) AK.2 h'];congr 1;omega
def aY (ls:List (B×Nat))(num fl:Int):B->List (Nat×Nat)->List Nat->List B
 |[],_,_=>[]
 |c::f,ps,nx=>
  if c=35\/c=118 then j9 num::aY ls num fl f ps nx
  else if c=102 then j9 fl::aY ls num fl f ps nx
  else if c=98 then mm (nx.headD 0)::aY ls num fl f ps nx.tail
  else Ks ls (ps.headD (0,0))::aY ls num fl f ps.tail nx
theorem iv {ls:List (B×Nat)}{nb:Nat}(AK:(ls.map (·.1)).Nodup)(E5:∀x∈ls,∀c∈x.1,¬c=46){num fl:Int}(kO: -1000000000<=num/\num<=1000000000)(lf:0<=fl/\fl<=1000000000)(tC:nb<=1000000000):
  ∀(f:B) (ps:List (Nat×Nat)) (nx:List Nat) (l:ab),(∀x∈ps,x.1<ls.length/\x.2<=3)->(∀n∈nx,n<nb)->ps.length=(f.filter dk).length->nx.length=(f.filter (·==98)).length->
   bQ ls nb f (aY ls num fl f ps nx) l=some {l with number:=if f.any (fun c=>c==35||c==118)=true then num else l.number,flag:=if f.any (·==102)=true then fl else l.flag,places:=l.places++ps,next:=l.next++nx}
 |[],ps,nx,l,_,_,h1,h2=>by
  have e1:ps=[]:=List.eq_nil_of_length_eq_zero h1;have e2:nx=[]:=List.eq_nil_of_length_eq_zero h2;subst e1;subst e2;simp[bQ]
 |c::f,ps,nx,l,hp,hx,h1,h2=>by
  by_cases c1:c=35\/c=118
  ·have ee:dk c=false:=by rcases c1 with rfl|rfl<;>rfl
   have tA:(c==98)=false:=by rcases c1 with rfl|rfl<;>rfl
   have Zu:(c==102)=false:=by rcases c1 with rfl|rfl<;>rfl
   have ZZ:(c==35||c==118)=true:=by rcases c1 with rfl|rfl<;>rfl
   rw[List.filter_cons,ee]at h1;rw[List.filter_cons,tA]at h2;rw[aY,jb c1,bQ,jb c1];show bQ ls nb f (aY ls num fl f ps nx) {l with number:=(cX (j9 num)).getD 0}=_
   rw[zR num kO,iv AK E5 kO lf tC f ps nx _ hp hx h1 h2];simp[ZZ,Zu]
  ·have n1:(c==35)=false:=by rw[jZ];exact fun e=>c1 (.inl e)
   have n2:(c==118)=false:=by rw[jZ];exact fun e=>c1 (.inr e)
   by_cases c2:c=102
   ·subst c2;rw[List.filter_cons,show dk 102=false from rfl]at h1;rw[List.filter_cons,show((102:UInt8)==98)=false from rfl]at h2;rw[aY,ja c1,jb rfl,bQ,ja c1,jb rfl];show bQ ls nb f (aY ls num fl f ps nx) {l with flag:=(aH (j9 fl)).getD 0}=_
    have ed:j9 fl=mm fl.natAbs:=by unfold j9;rw[ja (by omega)]
    rw[ed,kG fl.natAbs (by omega),iv AK E5 kO lf tC f ps nx _ hp hx h1 h2];have ef:((fl.natAbs:Nat):Int)=fl:=by omega
    simp[ef]
   ·have n3:(c==102)=false:=by rw[jZ];exact c2
    by_cases c3:c=98
    ·subst c3;rw[List.filter_cons,show dk 98=false from rfl]at h1;rw[List.filter_cons,show((98:UInt8)==98)=true from rfl]at h2;cases nx with
     |nil=>simp at h2
     |cons n nx=>
      have hn:=hx n (jM ..);rw[aY,ja c1,ja c2,jb rfl,bQ,ja c1,ja c2,jb rfl];show(if(aH (mm n)).getD 0≥(nb:Int)then none else bQ ls nb f (aY ls num fl f ps nx) {l with next:=l.next++[((aH (mm n)).getD 0).toNat]})=_
      rw[kG n (by omega)];show(if(n:Int)≥(nb:Int)then none else bQ ls nb f (aY ls num fl f ps nx) {l with next:=l.next++[((n:Int)).toNat]})=_
      rw[ja (by omega),iv AK E5 kO lf tC f ps nx _ hp (fun x hx'=>hx x (jN _ hx')) h1 (by simpa using h2)];simp
    ·have n4:(c==98)=false:=by rw[jZ];exact c3
     have ee:dk c=true:=by unfold dk;rw[n1,n2,n3,n4];rfl
     rw[List.filter_cons,ee]at h1;rw[List.filter_cons,n4]at h2;cases ps with
     |nil=>simp at h1
     |cons x ps=>
      obtain⟨j6,Ha⟩:=hp x (jM ..);have kp:∀c∈(ls.getD x.1 ([],0)).1,¬c=46:=E5 _ (by rw[jA,jB j6];exact jL j6);rw[aY,ja c1,ja c2,ja c3,bQ,ja c1,ja c2,ja c3];have es:bL (word (Ks ls ((x::ps).headD (0,0))::aY ls num fl f (x::ps).tail nx) 0)=some ((ls.getD x.1 ([],0)).1,x.2):=qA kp Ha;have ef:di ls (ls.getD x.1 ([],0)).1=((x.1:Nat):Int):=by unfold di;rw[BW ls x.1 0 AK j6];simp
      rw[es];simp only[Option.getD_some];rw[ef,ja (by omega)];show bQ ls nb f (aY ls num fl f ps nx) _=_
      rw[iv AK E5 kO lf tC f ps nx _ (fun y hy=>hp y (jN _ hy)) hx (by simpa using h1) h2];simp[n1,n2,n3]
end El
namespace El
open Go Sq Aux RefRa PrjS
theorem Sx (op:Fin 23):ew (cq op.val)=some op.val:=by revert op;decide
theorem GQ (op:Fin 23)(h:2<=op.val):∀c∈ah op.val,c=35\/c=118\/c=102\/c=98\/c=105\/c=111\/c=112\/c=109:=by revert op;decide
theorem kC (ls:List (B×Nat))(num fl:Int):∀(f:B) (ps:List (Nat×Nat)) (nx:List Nat),(aY ls num fl f ps nx).length=f.length
 |[],_,_=>rfl
 |c::f,ps,nx=>by
  rw[aY];split
  ·rw[jY,kC,jY]
  split
  ·rw[jY,kC,jY]
  split
  ·rw[jY,kC,jY]
  ·rw[jY,kC,jY]
theorem fc {n:B}(h:isName n=true):∀c∈n,¬c=46:=fun c hc e=>by
 unfold isName at h;simp only[Bool.and_eq_true,List.all_eq_true]at h;have:=h.1.1 c hc;rw[e]at this;exact absurd this (by decide)
def eK:B->List (Nat×Nat)->Prop
 |[],_=>True
 |c::f,ps=>if dk c=true then((c=105\/c=111->(ps.headD (0,0)).2=0)/\eK f ps.tail)else eK f ps
theorem ij {ls:List (B×Nat)}(kp:∀x∈ls,isName x.1=true){num fl:Int}(kO: -1000000000<=num/\num<=1000000000)(lf:0<=fl/\fl<50):
  ∀(f:B) (ps:List (Nat×Nat)) (nx:List Nat),(∀c∈f,c=35\/c=118\/c=102\/c=98\/c=105\/c=111\/c=112\/c=109)->(118∈f->num=0\/num=1)->(∀x∈ps,x.1<ls.length/\x.2<=3)->(∀n∈nx,n<=1000000000)->ps.length=(f.filter dk).length->nx.length=(f.filter (·==98)).length->eK f ps->
   bc f (aY ls num fl f ps nx)=true
 |[],_,_,_,_,_,_,_,_,_=>rfl
 |c::f,ps,nx,hk,hv,hp,hx,h1,h2,hw=>by
  have hkc:=hk c (jM ..);have YZ:∀c∈f,c=35\/c=118\/c=102\/c=98\/c=105\/c=111\/c=112\/c=109:=fun x hx=>hk x (jN _ hx)
  have Y5:118∈f->num=0\/num=1:=fun h=>hv (jN _ h)
  by_cases c1:c=35\/c=118
  ·have ee:dk c=false:=by rcases c1 with rfl|rfl<;>rfl
   have tA:(c==98)=false:=by rcases c1 with rfl|rfl<;>rfl
   rw[List.filter_cons,ee]at h1;rw[List.filter_cons,tA]at h2;rw[eK,ee]at hw;rw[aY,jb c1];show(du (j9 num) c&&bc f (aY ls num fl f ps nx))=true
   rw[ij kp kO lf f ps nx YZ Y5 hp hx h1 h2 hw,Bool.and_true];rcases c1 with rfl|rfl
   ·show(cX (j9 num)).isSome=true
    rw[zR num kO];rfl
   ·rcases hv (jM ..)with rfl|rfl
    ·show((j9 0==[48])||(j9 0==[49]))=true
     have:j9 0=[48]:=by unfold j9;rw[ja (by decide)];exact po 0 (by decide)
     rw[this];rfl
    ·show((j9 1==[48])||(j9 1==[49]))=true
     have:j9 1=[49]:=by unfold j9;rw[ja (by decide)];exact po 1 (by decide)
     rw[this];rfl
  ·by_cases c2:c=102
   ·subst c2;rw[List.filter_cons,show dk 102=false from rfl]at h1;rw[List.filter_cons,show((102:UInt8)==98)=false from rfl]at h2;rw[eK,show dk 102=false from rfl]at hw;rw[aY,ja c1,jb rfl];show(du (j9 fl) 102&&bc f (aY ls num fl f ps nx))=true
    rw[ij kp kO lf f ps nx YZ Y5 hp hx h1 h2 hw,Bool.and_true];show(match aH (j9 fl)with|some n=>decide (n<50)|none=>false)=true
    have ed:j9 fl=mm fl.natAbs:=by unfold j9;rw[ja (by omega)]
    rw[ed,kG fl.natAbs (by omega)];simp;omega
   ·by_cases c3:c=98
    ·subst c3;rw[List.filter_cons,show dk 98=false from rfl]at h1;rw[List.filter_cons,show((98:UInt8)==98)=true from rfl]at h2;rw[eK,show dk 98=false from rfl]at hw;cases nx with
     |nil=>simp at h2
     |cons n nx=>
      rw[aY,ja c1,ja c2,jb rfl];show(du (mm n) 98&&bc f (aY ls num fl f ps nx))=true
      rw[ij kp kO lf f ps nx YZ Y5 hp (fun x h=>hx x (jN _ h)) h1 (by simpa using h2) hw,Bool.and_true];show(aH (mm n)).isSome=true
      rw[kG n (hx n (jM ..))];rfl
    ·have ee:dk c=true:=by
      unfold dk;have n1:(c==35)=false:=by rw[jZ];exact fun e=>c1 (.inl e)
      have n2:(c==118)=false:=by rw[jZ];exact fun e=>c1 (.inr e)
      have n3:(c==102)=false:=by rw[jZ];exact c2
      have n4:(c==98)=false:=by rw[jZ];exact c3
      rw[n1,n2,n3,n4];rfl
     have tA:(c==98)=false:=by rw[jZ];exact c3
     rw[List.filter_cons,ee]at h1;rw[List.filter_cons,tA]at h2;rw[eK,jb ee]at hw;cases ps with
     |nil=>simp at h1
     |cons x ps=>
      obtain⟨j6,Ha⟩:=hp x (jM ..);have lu:ls.getD x.1 ([],0)∈ls:=by rw[jA,jB j6];exact jL j6
      have vY:=kp _ lu;rw[aY,ja c1,ja c2,ja c3];show(du (Ks ls x) c&&bc f (aY ls num fl f ps nx))=true
      rw[ij kp kO lf f ps nx YZ Y5 (fun y hy=>hp y (jN _ hy)) hx (by simpa using h1) h2 hw.2,Bool.and_true];have hz:=hw.1;rcases hkc with rfl|rfl|rfl|rfl|rfl|rfl|rfl|rfl
      ·exact absurd (.inl rfl) c1
      ·exact absurd (.inr rfl) c1
      ·exact absurd rfl c2
      ·exact absurd rfl c3
      ·have e0:x.2=0:=hz (.inl rfl);show isName (Ks ls x)=true
       unfold Ks;rw[e0];show isName ((ls.getD x.1 ([],0)).1++[])=true;rw[List.append_nil];exact vY
      ·have e0:x.2=0:=hz (.inr rfl);show isName (Ks ls x)=true
       unfold Ks;rw[e0];show isName ((ls.getD x.1 ([],0)).1++[])=true;rw[List.append_nil];exact vY
      ·show(match bL (Ks ls x)with|some x=>isName x.1|none=>false)=true
       unfold Ks;rw[qA (fc vY) Ha];exact vY
      ·show(match bL (Ks ls x)with|some x=>isName x.1|none=>false)=true
       unfold Ks;rw[qA (fc vY) Ha];exact vY
end El
namespace El
open Go Sq Aux RefRa PrjS
def fA (ls:List (B×Nat))(l:ab):List B:=cq l.op::aY ls l.number l.flag (ah l.op) l.places l.next
structure Told (ls:List (B×Nat))(nb:Nat)(l:ab):Prop where
 ok:fY ls.length nb l
 flag:l.flag<50
 value:118∈ah l.op->l.number=0\/l.number=1
 whole:eK (ah l.op) l.places
 Ko:(ah l.op).any (fun c=>c==35||c==118)=false->l.number=0
 zO:(ah l.op).any (·==102)=false->l.flag=0
theorem Ah {ls:List (B×Nat)}(kp:∀x∈ls,isName x.1=true){nb:Nat}(tC:nb<=1000000000){l:ab}(h:Told ls nb l):db (fA ls l)=some (l.op,aY ls l.number l.flag (ah l.op) l.places l.next):=by
 unfold db fA;have e0:word (cq l.op::aY ls l.number l.flag (ah l.op) l.places l.next) 0=cq l.op:=rfl;rw[e0,Sx ⟨l.op,h.ok.op⟩];have hlen:(cq l.op::aY ls l.number l.flag (ah l.op) l.places l.next).length-1=(ah l.op).length:=by
  rw[jY,kC];omega
 have J9:=ij kp h.ok.number ⟨h.ok.flag.1,h.flag⟩ (ah l.op) l.places l.next (GQ ⟨l.op,h.ok.op⟩ h.ok.Kp) h.value h.ok.places (fun n hn=>by have:=h.ok.next n hn;omega) h.ok.bt h.ok.pa h.whole;simp only;rw[jb ⟨hlen,J9⟩];rfl
theorem IY {ls:List (B×Nat)}(AK:(ls.map (·.1)).Nodup)(kp:∀x∈ls,isName x.1=true){nb:Nat}(tC:nb<=1000000000){l:ab}(h:Told ls nb l):dw ls nb (l.op,aY ls l.number l.flag (ah l.op) l.places l.next)=some {l with num:=0}:=by
 show bQ ls nb (ah l.op) (aY ls l.number l.flag (ah l.op) l.places l.next) ⟨0,l.op,[],0,0,[]⟩=_
 rw[iv AK (fun x hx=>fc (kp x hx)) h.ok.number h.ok.flag tC (ah l.op) l.places l.next _ h.ok.places h.ok.next h.ok.bt h.ok.pa];have e1:(if(ah l.op).any (fun c=>c==35||c==118)=true then l.number else 0)=l.number:=by
  split
  ·rfl
  ·rename_i hf;exact(h.Ko (Bool.eq_false_iff.2 hf)).symm
 have e2:(if(ah l.op).any (·==102)=true then l.flag else 0)=l.flag:=by
  split
  ·rfl
  ·rename_i hf;exact(h.zO (Bool.eq_false_iff.2 hf)).symm
 simp only[e1,e2,List.nil_append]
end El
namespace El
open Go Sq Aux RefRa PrjS RunA
theorem I8 {w:B}(h:isName w=true):bL w=some (w,0):=by
 have:=qA (fc h) (k:=0) (by omega);have e:w++iW 0=w:=by show w++[]=w;exact List.append_nil w
 rwa [e]at this
theorem EM {w:B}{c:UInt8}(hc:c=105\/c=111)(h:du w c=true):isName w=true:=by
 unfold du at h;rw[jb (by rcases hc with h|h<;>simp[h])]at h;exact h
theorem jq (ls:List (B×Nat))(nb:Nat):∀(f:B) (ws:List B) (l0 l:ab),bQ ls nb f ws l0=some l->bc f ws=true->
  ∃ps,l.places=l0.places++ps/\eK f ps/\(f.any (fun c=>c==35||c==118)=false->l.number=l0.number)/\(f.any (·==102)=false->l.flag=l0.flag)
 |[],ws,l0,l,h,_=>by
  simp only[bQ,Option.some.injEq]at h;subst h;exact⟨[],by simp,trivial,fun _=>rfl,fun _=>rfl⟩
 |c::f,ws,l0,l,h,hf=>by
  rw[bQ]at h;rw[bc,jH]at hf;by_cases c1:c=35\/c=118
  ·rw[jb c1]at h;obtain⟨ps,h1,h2,h3,h4⟩:=jq ls nb f (ws.drop 1) _ l h hf.2;have e1:dk c=false:=by rcases c1 with rfl|rfl<;>rfl
   have e2:(c==35||c==118)=true:=by rcases c1 with rfl|rfl<;>rfl
   have e3:(c==102)=false:=by rcases c1 with rfl|rfl<;>rfl
   refine⟨ps,h1,by rw[eK,e1];exact h2,fun hh=> ?_,fun hh=>h4 ?_⟩
   ·rw[List.any_cons,e2]at hh;cases hh
   ·rw[List.any_cons,e3,Bool.false_or]at hh;exact hh
  ·rw[ja c1]at h;have n1:(c==35||c==118)=false:=by
    rw[not_or]at c1;rw[Bool.or_eq_false_iff,jZ,jZ];exact c1
   by_cases c2:c=102
   ·rw[jb c2]at h;obtain⟨ps,h1,h2,h3,h4⟩:=jq ls nb f (ws.drop 1) _ l h hf.2;subst c2;refine⟨ps,h1,by rw[eK];exact h2,fun hh=>h3 ?_,fun hh=> ?_⟩
    ·rw[List.any_cons,n1,Bool.false_or]at hh;exact hh
    ·rw[List.any_cons]at hh;cases hh
   ·rw[ja c2]at h;have n2:(c==102)=false:=by rw[jZ];exact c2
    by_cases c3:c=98
    ·rw[jb c3]at h;split at h
     ·cases h
     ·obtain⟨ps,h1,h2,h3,h4⟩:=jq ls nb f (ws.drop 1) _ l h hf.2;subst c3;refine⟨ps,h1,by rw[eK];exact h2,fun hh=>h3 ?_,fun hh=>h4 ?_⟩
      ·rw[List.any_cons,n1,Bool.false_or]at hh;exact hh
      ·rw[List.any_cons,n2,Bool.false_or]at hh;exact hh
    ·rw[ja c3]at h;split at h
     ·cases h
     ·obtain⟨ps,h1,h2,h3,h4⟩:=jq ls nb f (ws.drop 1) _ l h hf.2;simp only at h1;have ee:dk c=true:=by
       rw[not_or]at c1;simp[dk,c1.1,c1.2,c2,c3]
      refine⟨_::ps,by rw[h1,List.append_assoc];rfl,?_,fun hh=>h3 ?_,fun hh=>h4 ?_⟩
      ·rw[eK,jb ee];refine⟨fun hc=> ?_,h2⟩;show((bL (word ws 0)).getD ([],0)).2=0
       rw[I8 (EM hc hf.1)];rfl
      ·rw[List.any_cons,n1,Bool.false_or]at hh;exact hh
      ·rw[List.any_cons,n2,Bool.false_or]at hh;exact hh
theorem EH:∀(ls:List (B×Nat)) (n:B) (k:Nat),n∈ls.map (·.1)->0<=bz ls n k
 |[],_,_,h=>by cases h
 |x::ls,n,k,h=>by
  rw[bz];split
  ·omega
  ·rename_i dB;rw[List.map_cons,jP]at h;exact EH ls n (k+1) (h.resolve_left fun e=>dB e.symm)
theorem Gr {ws:List B}{x:Nat×List B}(h:db ws=some x):bc (ah x.1) x.2=true:=by
 rw[db]at h;cases ho:ew (word ws 0)with
 |none=>rw[ho]at h;cases h
 |some op=>
  rw[ho]at h;simp only at h;split at h
  ·rename_i hh;cases h;exact hh.2
  ·cases h
structure TR (q:QP):Prop where
 names:∀x∈q.locals,isName x.1=true
 nodup:(q.locals.map (·.1)).Nodup
 lines:∀b∈q.blocks,∀l∈b,eK (ah l.op) l.places/\((ah l.op).any (fun c=>c==35||c==118)=false->l.number=0)/\((ah l.op).any (·==102)=false->l.flag=0)
structure Cnt (o:eA)(q:QP)(j:Nat):Prop where
 loc:o.locals=q.locals.length
 aM:o.blocks=q.blocks.length
 IP:o.locals<=12
 rl:o.blocks<=20
 mZ:o.sec=1->¬q.blocks=[]
 pos:¬o.sec=0->0<o.locals/\0<o.blocks
 sum:q.locals.length+q.blocks.length+q.blocks.flatten.length=j
theorem Hg {q:QP}(h:¬q.blocks=[])(l:ab):∃bs b,q.blocks=bs++[b]/\(q.addLine l).blocks=bs++[b++[l]]:=by
 refine⟨q.blocks.dropLast,q.blocks.getLast h,(List.dropLast_concat_getLast h).symm,?_⟩;show q.blocks.dropLast++[q.blocks.getLastD []++[l]]=_
 congr 3;rw[List.getLastD_eq_getLast?,List.getLast?_eq_some_getLast h];rfl
theorem Ql (nb:Nat):∀(ls:List (List B)) (o:eA) (i j:Nat) (q0 q:QP),(ay false ls o i).2.2=none->aR nb (ay false ls o i).1 j q0=(q,none)->TR q0->Cnt o q0 j->TR q/\Cnt (ay false ls o i).2.1 q (j+ls.length)
 |[],o,i,j,q0,q,_,h,hs,hc=>by
  simp only[ay,aR,Prod.mk.injEq,and_true]at h;rw[<-h];exact⟨hs,hc⟩
 |ws::r,o,i,j,q0,q,hn,h,hs,hc=>by
  rw[ay]at hn h⊢;cases hx:db ws with
  |none=>rw[hx]at hn;cases hn
  |some x=>
   rw[hx]at hn h;simp only at hn h⊢;have RH:=Gr hx;by_cases ha:(aD false o x.1).2=true
   ·rw[jb ha]at hn h⊢;have ih:=fun q1 hl iQ xU=>Ql nb r (aD false o x.1).1 (i+1) (j+1) q1 q hn hl iQ xU
    have ej:j+1+r.length=j+(ws::r).length:=by rw[jY];omega
    rw[ej]at ih;have RI:=yw ha;rw[aR]at h;have Pc:¬iq false x.1=false:=by rw[RI];decide
    by_cases e0:x.1=0
    ·rw[jb e0]at h;split at h
     ·simp at h
     ·rename_i hfd;have e:aD false o x.1=(⟨o.sec,o.locals+1,o.blocks⟩,o.sec==0&&decide (o.locals+1<=12)):=by rw[aD,ja Pc,jb e0]
      rw[e]at ha;simp only[Bool.and_eq_true,beq_iff_eq,decide_eq_true_eq]at ha;rw[e0]at RH;have vY:isName (word x.2 0)=true:=by
       have h1:(du (word x.2 0) 100&&bc [116] (x.2.drop 1))=true:=RH;rw[jH]at h1;exact h1.1
      refine ih _ h ⟨fun y hy=> ?_,?_,hs.lines⟩ ?_
      ·simp only[QP.addLocal,List.mem_append,List.mem_singleton]at hy;rcases hy with hy|rfl
       ·exact hs.names y hy
       ·exact vY
      ·show((q0.locals++[(word x.2 0,(fp (word x.2 1)).getD 0)]).map (fun y=>y.1)).Nodup
       rw[List.map_append,List.nodup_append];refine⟨hs.nodup,by simp,fun a ha' b hb=> ?_⟩;simp only[List.map_cons,List.map_nil,List.mem_singleton]at hb;subst hb;intro Te;subst Te;exact hfd (EH q0.locals _ 0 ha')
      ·rw[e];refine⟨by show o.locals+1=(q0.locals++[_]).length;rw[hc.loc];simp,hc.aM,ha.2,hc.rl,hc.mZ,fun h1=>absurd ha.1 h1,?_⟩;have:=hc.sum;show(q0.locals++[_]).length+q0.blocks.length+q0.blocks.flatten.length=j+1
       rw[jV];simp only[List.length_cons,List.length_nil];omega
    ·rw[ja e0]at h;by_cases e1:x.1=1
     ·rw[jb e1]at h;have e:aD false o x.1=(⟨1,o.locals,o.blocks+1⟩,decide (0<o.locals)&& !(o.sec==1)&&decide (o.blocks+1<=if false then 2000 else 20)):=by rw[aD,ja Pc,ja e0,jb e1]
      rw[e]at ha;simp only[Bool.and_eq_true,decide_eq_true_eq]at ha;have hle:o.blocks+1<=20:=ha.2;have hlo:=ha.1.1;refine ih _ h ⟨hs.names,hs.nodup,fun b hb l hl=> ?_⟩ ?_
      ·simp only[QP.addBlock,List.mem_append,List.mem_singleton]at hb;rcases hb with hb|rfl
       ·exact hs.lines b hb l hl
       ·cases hl
      ·rw[e];refine⟨hc.loc,by show o.blocks+1=(q0.blocks++[_]).length;rw[hc.aM];simp,hc.IP,hle,fun _=>by show¬q0.blocks++[[]]=[];simp,fun _=>⟨hlo,Nat.succ_pos _⟩,?_⟩;have:=hc.sum;show q0.locals.length+(q0.blocks++[[]]).length+(q0.blocks++[[]]).flatten.length=j+1
       simp only[List.length_append,List.length_cons,List.length_nil,List.flatten_append,List.flatten_cons,List.flatten_nil];omega
     ·rw[ja e1]at h;cases hl:dw q0.locals nb x with
      |none=>rw[hl]at h;simp at h
      |some l=>
       rw[hl]at h;have ak:=zC hl;by_cases h1:o.sec=1
       ·obtain⟨bs,b,hb,E0⟩:=Hg (hc.mZ h1) {l with num:=j};obtain⟨ps,k1,k2,k3,k4⟩:=jq q0.locals nb _ _ _ _ hl RH;simp only[List.nil_append]at k1;have bg:=fun xU=>ih _ h ⟨hs.names,hs.nodup,fun c pb m hm=>by
         rw[E0]at pb;simp only[List.mem_append,List.mem_singleton]at pb;rcases pb with pb|rfl
         ·exact hs.lines c (by rw[hb];simp[pb]) m hm
         ·simp only[List.mem_append,List.mem_singleton]at hm;rcases hm with hm|rfl
          ·exact hs.lines b (by rw[hb];simp) m hm
          ·show eK (ah l.op) l.places/\((ah l.op).any (fun c=>c==35||c==118)=false->l.number=0)/\((ah l.op).any (·==102)=false->l.flag=0)
           rw[ak,k1];exact⟨k2,k3,k4⟩⟩ xU
        refine bg ?_;have UK:=hc.sum;have Tx:(q0.addLine {l with num:=j}).locals.length+(q0.addLine {l with num:=j}).blocks.length+(q0.addLine {l with num:=j}).blocks.flatten.length=j+1:=by
         rw[E0];rw[hb]at UK;simp only[List.length_append,List.length_cons,List.length_nil,List.flatten_append,List.flatten_cons,List.flatten_nil,List.append_nil]at UK⊢;show q0.locals.length+_+_=_
         omega
        have qS:(q0.addLine {l with num:=j}).blocks.length=q0.blocks.length:=by rw[E0,hb];simp
        have dB:¬(q0.addLine {l with num:=j}).blocks=[]:=by rw[E0];simp
        by_cases kK:18<=x.1
        ·have e:(aD false o x.1).1=⟨2,o.locals,o.blocks⟩:=by rw[aD,ja Pc,ja e0,ja e1,ja (by simp[h1]),jb kK]
         rw[e];exact⟨hc.loc,by rw[qS];exact hc.aM,hc.IP,hc.rl,fun _=>dB,fun _=>hc.pos (by omega),Tx⟩
        ·have e:(aD false o x.1).1=o:=by rw[aD,ja Pc,ja e0,ja e1,ja (by simp[h1]),ja kK]
         rw[e];exact⟨hc.loc,by rw[qS];exact hc.aM,hc.IP,hc.rl,fun _=>dB,hc.pos,Tx⟩
       ·exfalso;rw[aD,ja Pc,ja e0,ja e1,jb h1]at ha;cases ha
   ·rw[ja ha]at hn;cases hn
structure Zr (q:QP):Prop where
 told:TR q
 IP:q.locals.length<=12
 l1:0<q.locals.length
 rl:q.blocks.length<=20
 b1:0<q.blocks.length
 sum:q.locals.length+q.blocks.length+q.blocks.flatten.length<=120
theorem An {text:B}{q:QP}(h:az text false=(some q,0,0)):Zr q:=by
 by_cases hlong:(split 10 text).length>(if false=true then 4000 else 120)
 ·rw[az,jb hlong]at h;cases h
 ·rw[az,ja hlong]at h;split at h
  ·cases h
  ·rename_i xX;split at h
   ·cases h
   ·rename_i pN;split at h
    ·cases h
    ·rename_i mu;split at h
     ·cases h
     ·simp only[Prod.mk.injEq,Option.some.injEq,and_true]at h;obtain⟨hs,hc⟩:=Ql (countB (ay false (br text) ⟨0,0,0⟩ 0).1) (br text) ⟨0,0,0⟩ 0 0 QP.empty q xX (by rw[<-h,<-mu]) ⟨fun x hx=>(by cases hx),List.nodup_nil,fun b hb=>(by cases hb)⟩ ⟨rfl,rfl,by simp,by simp,fun h=>(by cases h),fun h=>absurd rfl h,rfl⟩;have hp:=hc.pos (by simp only[Classical.not_not]at pN;omega);have h1:=hc.IP;have h2:=hc.rl;rw[hc.loc]at h1 hp;rw[hc.aM]at h2 hp;have hlen:(br text).length<=120:=by
       rw[ld];have:¬(split 10 text).length>120:=hlong;omega
      exact⟨hs,h1,hp.1,h2,hp.2,by have:=hc.sum;omega⟩
end El
namespace MadA
open Go Sq
theorem kZ (c:UInt8):∀(a:B),¬c∈a->split c a=[a]
 |[],_=>rfl
 |x::a,h=>by
  simp only[List.mem_cons,not_or]at h;rw[split,ja (fun e=>h.1 e.symm),kZ c a h.2];rfl
theorem kz (c:UInt8):∀(a t:B),¬c∈a->split c (a++c::t)=a::split c t
 |[],t,_=>by simp[split]
 |x::a,t,h=>by
  simp only[List.mem_cons,not_or]at h;rw[jW,split,ja (fun e=>h.1 e.symm),kz c a t h.2];rfl
instance:DecidableEq ab:=fun x y=>decidable_of_iff (x.num=y.num/\x.op=y.op/\x.places=y.places/\x.number=y.number/\x.flag=y.flag/\x.next=y.next)
 ⟨fun⟨h1,h2,h3,h4,h5,h6⟩=>by cases x;cases y;simp only at h1 h2 h3 h4 h5 h6;subst h1 h2 h3 h4 h5 h6;rfl,fun h=>by subst h;exact⟨rfl,rfl,rfl,rfl,rfl,rfl⟩⟩
end MadA
namespace El
open Go Sq Aux RefRa PrjS RunA MadA Bal
theorem pP (a b:B)(l:List B)(c:UInt8):Lib.join (a::b::l) [c]=a++c::Lib.join (b::l) [c]:=by simp[Lib.join,List.intercalate,List.intersperse]
theorem gL (c:UInt8):∀(l:List B) (a:B),(∀b∈a::l,¬c∈b)->split c (Lib.join (a::l) [c])=a::l
 |[],a,h=>by rw[Lib.join_one];exact kZ c a (h a (jM ..))
 |b::l,a,h=>by
  rw[pP,kz c a _ (h a (jM ..)),gL c l b (fun x hx=>h x (jN _ hx))]
theorem Dq {c d:UInt8}(hcd:¬d=c):∀(l:List B),(∀b∈l,¬d∈b)->¬d∈Lib.join l [c]
 |[],_=>by simp[Lib.join,List.intercalate]
 |[a],h=>by rw[Lib.join_one];exact h a (jM ..)
 |a::b::l,h=>by
  rw[pP];intro hm;rcases List.mem_append.1 hm with hm|hm
  ·exact h a (jM ..) hm
  ·rcases jP.1 hm with hm|hm
   ·exact hcd hm
   ·exact Dq hcd (b::l) (fun x hx=>h x (jN _ hx)) hm
theorem mz {n:Nat}(c:UInt8):∀(l:List B),(∀b∈l,b.length<=n)->(Lib.join l [c]).length<=(n+1)*l.length
 |[],_=>by simp[Lib.join,List.intercalate]
 |[a],h=>by
  have:=h a (jM ..);rw[Lib.join_one];simp;omega
 |a::b::l,h=>by
  have ih:=mz c (b::l) (fun x hx=>h x (jN _ hx));have h1:=h a (jM ..);rw[pP,jV,jY,jY,Nat.mul_succ];omega
theorem rn (n:Nat):mm n=Lib.decDigits n:=by
 induction n using Nat.strongRecOn with
 |_ n ih=>
  by_cases h:n<10
  ·rw[po n (by omega),Lib.decDigits,dif_pos h];rfl
  ·rw[tL n (by omega),Lib.decDigits,dif_neg h,ih (n/10) (by omega)];rfl
theorem sr (n:Int):j9 n=Lib.itoa n:=by
 unfold j9 Lib.itoa;split
 ·rw[rn]
 ·rw[rn,show n.natAbs=n.toNat by omega]
theorem BU (n:Nat):mm n=Lib.itoa (n:Int):=by rw[rn,Fq]
theorem rI (n:Int):∀c∈Lib.itoa n,45<=c.toNat:=fun c hc=>by
 unfold Lib.itoa at hc;split at hc
 ·rcases jP.1 hc with h|h
  ·rw[h];decide
  ·have:=(om _ c h).1;omega
 ·have:=(om _ c hc).1;omega
theorem rH {n:Int}(h: -1000000000<=n/\n<=1000000000):(Lib.itoa n).length<=21:=Lib.itoa_length_le n (by omega) (by omega)
theorem Dx {b:B}(h:∀c∈b,45<=c.toNat):¬(10:UInt8)∈b/\¬(32:UInt8)∈b:=
 ⟨fun e=>absurd (h 10 e) (by decide),fun e=>absurd (h 32 e) (by decide)⟩
theorem oE {n:B}(h:isName n=true):(∀c∈n,45<=c.toNat)/\n.length<=4:=by
 unfold isName at h;simp only[Bool.and_eq_true,List.all_eq_true,decide_eq_true_eq]at h;refine⟨fun c hc=> ?_,h.2⟩;have:=h.1.1 c hc;simp only[lower,Bool.and_eq_true,decide_eq_true_eq]at this;omega
theorem CF (k:Nat):(∀c∈iW k,45<=c.toNat)/\(iW k).length<=2:=by
 unfold iW
 repeat (first|(split;(first|(exact⟨by decide,by decide⟩)|skip))|exact⟨by decide,by decide⟩)
def Wd (b:B):Prop:=(∀c∈b,45<=c.toNat)/\b.length<=21
theorem k9 {ls:List (B×Nat)}(kp:∀x∈ls,isName x.1=true){num fl:Int}(kO: -1000000000<=num/\num<=1000000000)(lf:0<=fl/\fl<=1000000000):∀(f:B) (ps:List (Nat×Nat)) (nx:List Nat),(∀n∈nx,n<=1000000000)->∀b∈aY ls num fl f ps nx,Wd b
 |[],_,_,_,b,hb=>by cases hb
 |c::f,ps,nx,hx,b,hb=>by
  rw[aY]at hb;split at hb
  ·rcases jP.1 hb with rfl|hb
   ·rw[sr];exact⟨rI _,rH kO⟩
   ·exact k9 kp kO lf f ps nx hx b hb
  ·split at hb
   ·rcases jP.1 hb with rfl|hb
    ·rw[sr];exact⟨rI _,rH (by omega)⟩
    ·exact k9 kp kO lf f ps nx hx b hb
   ·split at hb
    ·rcases jP.1 hb with rfl|hb
     ·rw[BU];refine⟨rI _,rH ?_⟩;cases nx with
      |nil=>show-1000000000<=((0:Nat):Int)/\((0:Nat):Int)<=1000000000;omega
      |cons n nx=>have:=hx n (jM ..);show-1000000000<=((n:Nat):Int)/\((n:Nat):Int)<=1000000000;omega
     ·exact k9 kp kO lf f ps nx.tail (fun n hn=>hx n (List.mem_of_mem_tail hn)) b hb
    ·rcases jP.1 hb with rfl|hb
     ·unfold Ks;have h1:(∀c∈(ls.getD (ps.headD (0,0)).1 ([],0)).1,45<=c.toNat)/\(ls.getD (ps.headD (0,0)).1 ([],0)).1.length<=4:=by
       rw[jA];cases hg:ls[(ps.headD (0,0)).1]? with
       |none=>exact⟨fun c hc=>(by cases hc),by simp⟩
       |some x=>exact oE (kp x (List.mem_of_getElem? hg))
      have h2:=CF (ps.headD (0,0)).2;refine⟨fun c hc=>(List.mem_append.1 hc).elim (h1.1 c) (h2.1 c),?_⟩;rw[jV];have:=h1.2;have:=h2.2;omega
     ·exact k9 kp kO lf f ps.tail nx hx b hb
theorem Ys:∀op:Fin 23,(∀c∈cq op.val,45<=c.toNat)/\(cq op.val).length<=5:=by decide
theorem CI:∀op:Fin 23,(ah op.val).length<=3:=by decide
def oW (ls:List (B×Nat))(l:ab):B:=Lib.join (fA ls l) [32]
section
variable {ls:List (B×Nat)} {nb:Nat} {l:ab}
theorem yl (kp:∀x∈ls,isName x.1=true)(tC:nb<=1000000000)(h:Told ls nb l):∀b∈fA ls l,Wd b:=fun b hb=>by
 unfold fA at hb;rcases jP.1 hb with rfl|hb
 ·have:=Ys ⟨l.op,h.ok.op⟩;exact⟨this.1,jS this.2 (by decide)⟩
 ·exact k9 kp h.ok.number h.ok.flag _ _ _ (fun n hn=>by have:=h.ok.next n hn;omega) b hb
theorem IW (kp:∀x∈ls,isName x.1=true)(tC:nb<=1000000000)(h:Told ls nb l):split 32 (oW ls l)=fA ls l:=
 gL 32 _ _ (fun b hb=>(Dx (yl kp tC h b hb).1).2)
theorem Sk (kp:∀x∈ls,isName x.1=true)(tC:nb<=1000000000)(h:Told ls nb l):¬(10:UInt8)∈oW ls l:=
 Dq (by decide) _ (fun b hb=>(Dx (yl kp tC h b hb).1).1)
theorem Ms (kp:∀x∈ls,isName x.1=true)(tC:nb<=1000000000)(h:Told ls nb l):(oW ls l).length<=88:=by
 have h1:=mz (n:=21) 32 (fA ls l) (fun b hb=>(yl kp tC h b hb).2);have h2:(fA ls l).length<=4:=by
  unfold fA;rw[jY,kC];have:=CI ⟨l.op,h.ok.op⟩;simp only at this;omega
 unfold oW;omega
end
def zA (x:B×Nat):List B:=[iE,x.1,cN.getD x.2 []]
def sJ (x:B×Nat):B:=Lib.join (zA x) [32]
theorem K5:∀t:Fin 4,(∀c∈cN.getD t.val [],45<=c.toNat)/\(cN.getD t.val []).length<=4/\fp (cN.getD t.val [])=some t.val:=by decide
theorem IT {x:B×Nat}(h1:isName x.1=true)(h2:x.2<=3):∀b∈zA x,Wd b:=fun b hb=>by
 simp only[zA,List.mem_cons,List.not_mem_nil,or_false]at hb;rcases hb with rfl|rfl|rfl
 ·exact⟨by decide,by decide⟩
 ·have:=oE h1;exact⟨this.1,by have:=this.2;omega⟩
 ·have:=K5 ⟨x.2,by omega⟩;exact⟨this.1,by have:=this.2.1;simp only at this;omega⟩
theorem Mq {x:B×Nat}(h1:isName x.1=true)(h2:x.2<=3):split 32 (sJ x)=zA x:=gL 32 _ _ (fun b hb=>(Dx (IT h1 h2 b hb).1).2)
theorem US {x:B×Nat}(h1:isName x.1=true)(h2:x.2<=3):¬(10:UInt8)∈sJ x:=Dq (by decide) _ (fun b hb=>(Dx (IT h1 h2 b hb).1).1)
theorem PE {x:B×Nat}(h1:isName x.1=true)(h2:x.2<=3):(sJ x).length<=88:=by
 have:=mz (n:=21) 32 (zA x) (fun b hb=>(IT h1 h2 b hb).2);unfold sJ;have e:(zA x).length=3:=rfl;omega
theorem PF {x:B×Nat}(h1:isName x.1=true)(h2:x.2<=3):db (zA x)=some (0,[x.1,cN.getD x.2 []]):=by
 unfold db;have e0:ew (word (zA x) 0)=some 0:=by show ew iE=some 0;decide
 rw[e0];simp only;rw[jb]
 ·rfl
 ·refine⟨rfl,?_⟩;show(du x.1 100&&(du (cN.getD x.2 []) 116&&true))=true
  have e1:du x.1 100=true:=h1;have e2:du (cN.getD x.2 []) 116=true:=by
   show(fp (cN.getD x.2 [])).isSome=true
   rw[(K5 ⟨x.2,by omega⟩).2.2];rfl
  rw[e1,e2];rfl
end El
end Go.Proofs.YtmlgajhhnojdjaaGreatDoor
namespace Go.Proofs
open Go.Shelf
def Tryz.Dt:Go.Shelf.Ren:=⟨fun|171=>134|243=>183|246=>182|283=>212|284=>213|285=>214|286=>215|129=>232|317=>231|318=>233|319=>234|320=>235|337=>242|338=>243|n=>n,fun|3=>3|9=>9|2=>2|4=>4|171=>90|0=>0|53=>281|37=>93|5=>5|173=>284|212=>299|51=>300|20=>20|213=>301|46=>292|232=>313|233=>314|n=>n,fun|17=>4|18=>7|19=>8|n=>n⟩
theorem Tryz.Py:Go.Proofs.LaysM.n171 Tryz.prog Tryz.Dt:={
 mixed:=by kernel_rfl
 f129:=Tryz.func232.trans (congrArg some (by kernel_rfl))
 f171:=Tryz.func134.trans (congrArg some (by kernel_rfl))
 f243:=Tryz.func183.trans (congrArg some (by kernel_rfl))
 f246:=Tryz.func182.trans (congrArg some (by kernel_rfl))
 f283:=Tryz.func212.trans (congrArg some (by kernel_rfl))
 f284:=Tryz.func213.trans (congrArg some (by kernel_rfl))
 f285:=Tryz.func214.trans (congrArg some (by kernel_rfl))
 f286:=Tryz.func215.trans (congrArg some (by kernel_rfl))
 f317:=Tryz.func231.trans (congrArg some (by kernel_rfl))
 f318:=Tryz.func233.trans (congrArg some (by kernel_rfl))
 f319:=Tryz.func234.trans (congrArg some (by kernel_rfl))
 f320:=Tryz.func235.trans (congrArg some (by kernel_rfl))
 f337:=Tryz.func242.trans (congrArg some (by kernel_rfl))
 f338:=Tryz.func243.trans (congrArg some (by kernel_rfl))
 t0:=Tryz.underlying0
 a0:=Tryz.isAgg0
 z0:=Tryz.sizeOf0
 v0:=Tryz.zeroValue0
 t2:=Tryz.underlying2
 a2:=Tryz.isAgg2
 z2:=Tryz.sizeOf2
 v2:=Tryz.zeroValue2
 t3:=Tryz.underlying3
 a3:=Tryz.isAgg3
 z3:=Tryz.sizeOf3
 v3:=Tryz.zeroValue3
 t4:=Tryz.underlying4
 a4:=Tryz.isAgg4
 z4:=Tryz.sizeOf4
 v4:=Tryz.zeroValue4
 t5:=Tryz.underlying5
 a5:=Tryz.isAgg5
 z5:=Tryz.sizeOf5
 v5:=Tryz.zeroValue5
 t9:=Tryz.underlying9
 a9:=Tryz.isAgg9
 z9:=Tryz.sizeOf9
 v9:=Tryz.zeroValue9
 t20:=Tryz.underlying20
 a20:=Tryz.isAgg20
 z20:=Tryz.sizeOf20
 v20:=Tryz.zeroValue20
 t37:=Tryz.underlying93
 a37:=Tryz.isAgg93
 z37:=Tryz.sizeOf93
 v37:=Tryz.zeroValue93
 t46:=Tryz.underlying292
 a46:=Tryz.isAgg292
 z46:=Tryz.sizeOf292
 v46:=Tryz.zeroValue292
 t51:=Tryz.underlying300
 a51:=Tryz.isAgg300
 z51:=Tryz.sizeOf300
 v51:=Tryz.zeroValue300
 t53:=Tryz.underlying281
 a53:=Tryz.isAgg281
 z53:=Tryz.sizeOf281
 v53:=Tryz.zeroValue281
 t171:=Tryz.underlying90
 a171:=Tryz.isAgg90
 z171:=Tryz.sizeOf90
 v171:=Tryz.zeroValue90
 t173:=Tryz.underlying284
 a173:=Tryz.isAgg284
 z173:=Tryz.sizeOf284
 v173:=Tryz.zeroValue284
 t212:=Tryz.underlying299
 a212:=Tryz.isAgg299
 z212:=Tryz.sizeOf299
 v212:=Tryz.zeroValue299
 t213:=Tryz.underlying301
 a213:=Tryz.isAgg301
 z213:=Tryz.sizeOf301
 t232:=Tryz.underlying313
 a232:=Tryz.isAgg313
 z232:=Tryz.sizeOf313
 v232:=Tryz.zeroValue313
 t233:=Tryz.underlying314
 a233:=Tryz.isAgg314
 z233:=Tryz.sizeOf314
 v233:=Tryz.zeroValue314
 g17:=by kernel_rfl
 g18:=by kernel_rfl
 g19:=by kernel_rfl
 i0:=by kernel_rfl
 i2:=by kernel_rfl
 i3:=by kernel_rfl
 i4:=by kernel_rfl
 i5:=by kernel_rfl
 i9:=by kernel_rfl
 i20:=by kernel_rfl
 i37:=by kernel_rfl
 i46:=by kernel_rfl
 i51:=by kernel_rfl
 i53:=by kernel_rfl
 i171:=by kernel_rfl
 i173:=by kernel_rfl
 i212:=by kernel_rfl
 i232:=by kernel_rfl
 i233:=by kernel_rfl
 m17:=by kernel_rfl
 m18:=by kernel_rfl
 m19:=by kernel_rfl}
open Go.RowKit Go.Sort Go.Lib in
theorem Tryz.strconv_Itoa (n:Int)(h0: -9223372036854775808<=n)(h1:n<=9223372036854775807)(w:World)(htab:Lib.TabIs Tryz.prog w "internal/strconv.uint64pow10" .u64 Lib.pow10Tab):
  Calls Tryz.prog 134 #[.int .i64 n] w fun e w'=>e=.returned (.string ⟨(Lib.itoa n).toArray⟩)/\∃k os,w'=grow (w.drewN k) os:=Any.strconv_Itoa Tryz.Py n h0 h1 w htab
end Go.Proofs

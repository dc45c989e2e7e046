import Derived.Test.YtmlgajhhnojdjaaGreatDoorVBB
namespace Go.Proofs.YtmlgajhhnojdjaaGreatDoor
namespace RunB
open Go Sq Aux Go.Proofs.YtmlgajhhnojdjaaGreatDoor.Own RunA RefM PrjS FlwA FlwI FlwJ FlwK FlwM FlwO FlwP FlwQ FlwS FlwV FlwY FlwZ
theorem IE {a b:Nat}(h:p8 a b)(h':p8 b a):a=b:=by
 unfold p8 at h h';rw[<-h',Nat.or_comm,h]
theorem ED {text:B}{p p':RP}{q:QP}{E E':List (List Nat)}(h:kq text p q E)(h':kq text p' q E'):∀b,b<q.blocks.length->E.getD b []=E'.getD b []:=fun b hb=>by
 have c:∀{p:RP} {E:List (List Nat)},kq text p q E->mq q (fun b=>E.getD b []):=fun hD=>⟨fun b hb=>hD.ok hb,hD.inv.inv.start,fun b hb hz x hx=>hD.inv.inv.step b hb rfl hz x hx⟩
 have h1:=h.inv.inv.least _ (c h') b hb;have h2:=h'.inv.inv.least _ (c h) b hb;exact DI (h.ok hb).len (h'.ok hb).len fun k hk=>IE (h1 k hk) (h2 k hk)
theorem kZ (f g:Nat->Option Nat):∀(m k:Nat),(∀c,k<=c->c<k+m->f c=g c)->aG f m k=aG g m k
 |0,_,_=>rfl
 |m+1,k,h=>by rw[aG,aG,h k (jC _) (by omega),kZ f g m (k+1) fun c h1 h2=>h c (by omega) (by omega)]
theorem BY {text:B}{p p':RP}{q:QP}{E E':List (List Nat)}(h:kq text p q E)(h':kq text p' q E'):aG (bK q E) q.blocks.length 0=aG (bK q E') q.blocks.length 0:=
 kZ _ _ _ _ fun c _ hc=>by unfold bK;rw[ED h h' c (by omega)]
theorem Ke {text:B}{c k c' k':Int}(h:fG text c k)(h':fG text c' k'):c=c'/\k=k':=by
 rcases h with⟨a,b,h0,h1,rfl,rfl⟩|⟨p,q,E,h1,h2,h3,h4⟩<;>rcases h' with⟨a',b',Y5,xz,rfl,rfl⟩|⟨p',q',E',xz,EN,Nr,Xf⟩
 ·rw[h1]at xz;simp only[Prod.mk.injEq,true_and]at xz;omega
 ·rw[h1]at xz;cases xz
 ·rw[h1]at xz;cases xz
 ·rw[h2]at EN;simp only[Prod.mk.injEq,Option.some.injEq,and_true]at EN;subst EN;have e:=BY h3 Nr;rcases h4 with⟨n,h5,rfl,rfl⟩|⟨h5,rfl,rfl⟩<;>rcases Xf with⟨n',Sc,rfl,rfl⟩|⟨Sc,rfl,rfl⟩
  ·rw[h5,Sc]at e;cases e;exact⟨rfl,rfl⟩
  ·rw[h5,Sc]at e;cases e
  ·rw[h5,Sc]at e;cases e
  ·exact⟨rfl,rfl⟩
def Ek:Value:=.agg #[.int .i64 0,.int .i64 0,.string ⟨#[]⟩,.int .i64 0]
def l7 (cX:List Int)(fuel room:Int):Prop:=cX.length<=100/\0<=fuel/\fuel<=1000/\0<=room/\room<=50
structure Good (text:B)(q:QP):Prop where
 read:ax text false=(some q,0,0)
 done:∃p E,bP text false=(some p,0,0)/\kq text p q E/\aG (bK q E) q.blocks.length 0=none
theorem Good.Xb {text:B}{q:QP}(h:Good text q):fG text 0 0:=by
 obtain⟨p,E,h1,h2,h3⟩:=h.done;exact .inr ⟨p,q,E,h1,h.read,h2,.inr ⟨h3,rfl,rfl⟩⟩
theorem Good.run {text:B}{q:QP}(h:Good text q){J:List Nat->Own.Own->Prop}(H:Steps q J){cX:List Int}(hJ:J aA (Own.start cX))(room:Int)(f:Nat):∃dv,dq q room f (q.blocks.getD 0 []) (Own.start cX)=some dv/\M7 q J room dv:=by
 obtain⟨p,E,-,h2,h3⟩:=h.done;exact Bm h2 h.read h3 H hJ room f
end RunB
namespace Bal
open Go Sq Aux Go.Proofs.YtmlgajhhnojdjaaGreatDoor.Own RunA RunB PrjS FlwA FlwB FlwC FlwD FlwE FlwF FlwG FlwH FlwS FlwY
section
variable {q:QP} {hs:List Nat} {o:Own.Own}
theorem take_zero:∀(ps:List (Nat×Nat)) (o:Own.Own) (k:Nat),k∈ps.map ah\/o.boxes.getD k 0=0->(Own.take ps o).2.boxes.getD k 0=0
 |[],_,_,h=>h.resolve_left (by simp)
 |p::ps,o,k,h=>by
  rw[Own.take];refine take_zero ps (o.clear p) k ?_;by_cases hm:k∈ps.map ah
  ·exact .inl hm
  ·refine .inr ?_;show(o.boxes.set (ah p) 0).getD k 0=0
   rw[dK];split
   ·rfl
   ·rename_i c8;rcases h with h|h
    ·rw[List.map_cons,jP]at h;rcases h with h|h
     ·have:¬k<o.boxes.length:=fun hk=>c8 ⟨h.symm,hk⟩
      rw[jA,jG (by omega)];rfl
     ·exact absurd h hm
    ·exact h
theorem drop_zero (ps:List (Nat×Nat))(o:Own.Own){k:Nat}(h:k∈ps.map ah\/o.boxes.getD k 0=0):(o.drop ps).boxes.getD k 0=0:=by
 rw[(eS ps o).2.2.2];exact take_zero ps o k h
variable {l:ab}
end
end Bal
namespace Ex
open Go Go.RowKit Sq Aux PrjJ PrjK PrjL PrjM FlwA FlwE Go.Proofs.YtmlgajhhnojdjaaGreatDoor.Own
structure Br where
 yd:Yd
 cX:List Int
 cs:List (Bool×Int)
 flags:List Bool
def RO (q:QP)(p:Nat×Nat):Bool:=q.aT p==3
def cellOf (q:QP)(p:Nat×Nat):Nat:=if RO q p then 24+p.1 else ah p
def Br.cell (b:Br)(q:QP)(p:Nat×Nat):Bool×Int:=b.cs.getD (cellOf q p) (false,0)
def Br.val (b:Br)(q:QP)(p:Nat×Nat):Int:=(b.cell q p).2
def Br.write (b:Br)(q:QP)(p:Nat×Nat)(v:Int):Br:={b with cs:=b.cs.set (cellOf q p) (true,v)}
section
variable {x a:Nat} {w w0 w1:World} {vm vt vi vm1 vt1:Value} {b:Br}
end
end Ex
namespace Ex
theorem SA:True:=trivial
end Ex
namespace Ex
theorem SB:True:=trivial
end Ex
namespace Ex
theorem SC:True:=trivial
end Ex
namespace Ex
theorem SD:True:=trivial
end Ex
namespace Ex
open Go Go.RowKit Sq Aux PrjJ PrjK PrjL PrjM PrjR PrjS PrjT FlwA FlwE Go.Proofs.YtmlgajhhnojdjaaGreatDoor.Own
def Br.Hd (q:QP)(ts fs:List (Nat×Nat)):Nat->Br->Br
 |0,b=>b
 |k+1,b=>(Br.Hd q ts fs k b).write q (ts.getD k (0,0)) ((Br.Hd q ts fs k b).val q (fs.getD k (0,0)))
section
variable {x a:Nat} {w w0 w1:World} {vm vt vi v u:Value} {b:Br} {q:QP}
end
end Ex
namespace Ex
theorem SE:True:=trivial
end Ex
namespace Ex
theorem SF:True:=trivial
end Ex
namespace Ex
theorem SG:True:=trivial
end Ex
namespace Ex
theorem SH:True:=trivial
end Ex
namespace Ex
theorem SI:True:=trivial
end Ex
namespace El
open Go Sq Aux Go.Proofs.YtmlgajhhnojdjaaGreatDoor.Own FlwA FlwE FlwF FlwG
def bR (q:QP)(x:Nat×Nat):List (Nat×Nat):=if q.aT x=0 then []else if q.aT x=3 then [(x.1,3)]else QP.ai q x
def gV (q:QP):Nat->List (Nat×Nat)
 |0=>[]
 |n+1=>bR q (n,0)++gV q n
def bf (q:QP)(l:ab):List (Nat×Nat):=
 if l.op=9\/l.op=12\/l.op=13\/l.op=14\/l.op=15 then bR q (aw l 0)else if l.op=22 then gV q q.locals.length else []
def dW (v:Nat):Bool:= !(v&&&2==0)&& !(v==2)
def ji (x:Nat×Nat):ab:=⟨0,16,[x],0,0,[]⟩
def dB (k:Nat)(v:Int):ab:=⟨0,17,[],v,(k:Nat),[]⟩
def y5 (k:Nat):ab:=⟨0,21,[],0,(k:Nat),[]⟩
def mG (x:Nat×Nat):ab:=⟨0,20,[x],0,0,[]⟩
def dC (b:Nat):ab:=⟨0,18,[],0,0,[b]⟩
inductive Item where
 |line (l:ab)
 |fork (t:ab) (aside:List ab)
def cd (v:Nat)(x:Nat×Nat):List Item:=if dW v=true then [.fork (y5 (ah x)) [ji x]]else if v=2 then [.line (ji x)]else []
def aN (s:List Nat)(ps:List (Nat×Nat)):List Item:=ps.flatMap fun x=>cd (s.getD (ah x) 0) x
def dw (un:Bool)(was Ix k:Nat):List Item:=if un=false then []else if Ix=2/\¬was=2 then [.line (dB k 1)]else if Ix&&&2=0/\¬was&&&2=0 then [.line (dB k 0)]else []
def aY (un:List Bool)(s t:List Nat)(n:Nat):List Item:=(List.range n).flatMap fun k=>dw (un.getD k false) (s.getD k 0) (t.getD k 0) k
def bw (un:List Bool)(t:List Nat)(x:Nat×Nat):List Item:=
 if un.getD (ah x) false=true/\dW (t.getD (ah x) 0)=true then [.line (dB (ah x) 1),.fork (mG x) [dB (ah x) 0]]else []
def bo (q:QP)(un:List Bool)(s:List Nat)(l:ab):List Item:=
 aN (aR q l s) (bf q l)++((if l.op=15 then []else [.line l])++(aY un s (au q l s) 24++if l.op=12 then bw un (au q l s) (aw l 0)else []))
def bg (q:QP)(un:List Bool):List ab->List Nat->List Item
 |[],_=>[]
 |l::ls,s=>bo q un s l++bg q un ls (au q l s)
structure Mk where
 blocks:List (List ab)
 at_:Nat
def Mk.put (m:Mk)(ls:List ab):Mk:=⟨m.blocks.set m.at_ (m.blocks.getD m.at_ []++ls),m.at_⟩
def Mk.fork (m:Mk)(t:ab)(aside:List ab):Mk:=
 ⟨((⟨((⟨m.blocks++[[],[]],m.at_⟩:Mk).put [{t with next:=[m.blocks.length,m.blocks.length+1]}]).blocks,m.blocks.length⟩:Mk).put (aside++[dC (m.blocks.length+1)])).blocks,m.blocks.length+1⟩
def Mk.item (m:Mk):Item->Mk
 | .line l=>m.put [l]
 | .fork t aside=>m.fork t aside
def Mk.items (m:Mk)(is:List Item):Mk:=is.foldl Mk.item m
theorem fM (m:Mk)(is js:List Item):m.items (is++js)=(m.items is).items js:=List.foldl_append
def gF (s:List Nat)(ps:List (Nat×Nat))(un:List Bool):List Bool:=ps.foldl (fun un x=>if dW (s.getD (ah x) 0)=true then un.set (ah x) true else un) un
def lF (q:QP):List ab->List Nat->List Bool->List Bool
 |[],_,un=>un
 |l::ls,s,un=>lF q ls (au q l s) (gF (aR q l s) (bf q l) un)
def pb (q:QP)(E:List (List Nat)):Nat->List Bool
 |0=>List.replicate 24 false
 |b+1=>lF q (q.blocks.getD b []) (E.getD b []) (pb q E b)
def iS (q:QP)(E:List (List Nat))(un:List Bool)(b:Nat)(m:Mk):Mk:=
 if E.getD b []=ak then(⟨m.blocks,b⟩:Mk).put [dC b]else(⟨m.blocks,b⟩:Mk).items (bg q un (q.blocks.getD b []) (E.getD b []))
def bA (q:QP)(E:List (List Nat))(un:List Bool):Nat->Mk
 |0=>⟨List.replicate q.blocks.length [],0⟩
 |b+1=>iS q E un b (bA q E un b)
def lv (q:QP)(E:List (List Nat)):QP:=⟨q.locals,(bA q E (pb q E q.blocks.length) q.blocks.length).blocks⟩
def Laid (R:List (List ab)):List Item->List ab->Prop
 |[],rs=>rs=[]
 | .line l::is,rs=>∃rs',rs=l::rs'/\Laid R is rs'
 | .fork t aside::is,rs=>∃i j,rs=[{t with next:=[i,j]}]/\R.getD i []=aside++[dC j]/\Laid R is (R.getD j [])
theorem dV (m:Mk)(ls:List ab):(m.put ls).blocks.length=m.blocks.length:=by simp[Mk.put]
theorem EL (s:List (List ab))(i:Nat)(y:List ab)(k:Nat):(s.set i y).getD k []=if i=k/\k<s.length then y else s.getD k []:=by
 rw[jA,jA,jd];by_cases e:i=k
 ·subst e;by_cases h:i<s.length
  ·simp[h]
  ·simp[h]
 ·simp[e]
theorem jq (m:Mk)(ls:List ab)(h:m.at_<m.blocks.length)(k:Nat):(m.put ls).blocks.getD k []=if k=m.at_ then m.blocks.getD k []++ls else m.blocks.getD k []:=by
 rw[Mk.put,EL];by_cases e:m.at_=k
 ·subst e;rw[jb ⟨rfl,h⟩,jb rfl]
 ·rw[ja (fun x=>e x.1),ja (fun x=>e x.symm)]
theorem sh (L:List (List ab))(k:Nat):(L++[[],[]]).getD k []=L.getD k []:=by
 rw[jA,jA,List.getElem?_append];by_cases h:k<L.length
 ·rw[jb h]
 ·rw[ja h,jG (l:=L) (by omega)];rcases Nat.lt_or_ge (k-L.length) 2 with h2|h2
  ·rcases(show k-L.length=0\/k-L.length=1 by omega)with e|e<;>rw[e]<;>rfl
  ·rw[jG (by simpa using h2)]
theorem lN (m:Mk)(t:ab)(sd:List ab):(m.fork t sd).blocks.length=m.blocks.length+2:=by simp[Mk.fork,Mk.put]
theorem my (m:Mk)(t:ab)(sd:List ab)(h:m.at_<m.blocks.length)(k:Nat):(m.fork t sd).blocks.getD k []=
  if k=m.at_ then m.blocks.getD k []++[{t with next:=[m.blocks.length,m.blocks.length+1]}]else if k=m.blocks.length then sd++[dC (m.blocks.length+1)]else m.blocks.getD k []:=by
 unfold Mk.fork;rw[jq _ _ (by simp[Mk.put]),jq _ _ (by simp;omega)];simp only[sh];by_cases e:k=m.at_
 ·subst e;rw[ja (by omega)];simp only[if_true]
 ·by_cases e2:k=m.blocks.length
  ·subst e2;simp only[if_true,if_neg e];rw[jA,jG (jC _)];rfl
  ·simp only[if_neg e,if_neg e2]
structure Lays (m:Mk)(is:List Item)(m':Mk):Prop where
 len:m.blocks.length<=m'.blocks.length
 bz:∀k,k<m.blocks.length->¬k=m.at_->m'.blocks.getD k []=m.blocks.getD k []
 RQ:∃rs,m'.blocks.getD m.at_ []=m.blocks.getD m.at_ []++rs/\∀R:List (List ab),(∀k,k=m.at_\/m.blocks.length<=k->k<m'.blocks.length->R.getD k []=m'.blocks.getD k [])->Laid R is rs
theorem kI:∀(is:List Item) (m:Mk),m.at_<m.blocks.length->Lays m is (m.items is)
 |[],m,h=>⟨jC _,fun _ _ _=>rfl,[],by simp[Mk.items],fun _ _=>rfl⟩
 | .line l::is,m,h=>by
  have ih:=kI is (m.put [l]) (by rw[dV];exact h);have e:m.items (.line l::is)=(m.put [l]).items is:=rfl;rw[e];obtain⟨rs,h1,h2⟩:=ih.RQ;have hl:=ih.len;rw[dV]at hl;refine⟨hl,fun k hk c8=> ?_,l::rs,?_,fun R hR=>⟨rs,rfl,h2 R fun k hk aP=>hR k ?_ aP⟩⟩
  ·rw[ih.bz k (by rw[dV];exact hk) c8,jq _ _ h,ja c8]
  ·show(Mk.items (m.put [l]) is).blocks.getD (m.put [l]).at_ []=_
   rw[h1,jq _ _ h,jb (show(m.put [l]).at_=m.at_ from rfl),List.append_assoc];rfl
  ·rw[dV]at hk;exact hk
 | .fork t sd::is,m,h=>by
  have hn:=lN m t sd;have ih:=kI is (m.fork t sd) (by rw[hn];show m.blocks.length+1<_;omega);have e:m.items (.fork t sd::is)=(m.fork t sd).items is:=rfl;rw[e];have km:(m.fork t sd).at_=m.blocks.length+1:=rfl;obtain⟨rs,h1,h2⟩:=ih.RQ;have hl:=ih.len;rw[hn]at hl;refine⟨by omega,fun k hk c8=> ?_,[{t with next:=[m.blocks.length,m.blocks.length+1]}],?_,fun R hR=> ?_⟩
  ·rw[ih.bz k (by omega) (by omega),my _ _ _ h,ja c8,ja (by omega)]
  ·rw[ih.bz _ (by omega) (by omega),my _ _ _ h,jb rfl]
  ·refine⟨m.blocks.length,m.blocks.length+1,rfl,?_,?_⟩
   ·rw[hR _ (.inr (jC _)) (by omega),ih.bz _ (by omega) (by omega),my _ _ _ h,ja (by omega),jb rfl]
   ·rw[hR _ (.inr (by omega)) (by omega)];have h3:(Mk.items (m.fork t sd) is).blocks.getD (m.blocks.length+1) []=rs:=by
     rw[km]at h1;rw[h1,my _ _ _ h,ja (by omega),ja (by omega),jA,jG (by omega)];rfl
    rw[h3];refine h2 R fun k hk aP=>hR k (.inr ?_) aP
    rw[hn,km]at hk;omega
def Dv (q:QP)(E:List (List Nat))(un:List Bool)(R:List (List ab))(b:Nat):Prop:=
 if E.getD b []=ak then R.getD b []=[dC b]else Laid R (bg q un (q.blocks.getD b []) (E.getD b [])) (R.getD b [])
structure Made (q:QP)(E:List (List Nat))(un:List Bool)(n:Nat)(m:Mk):Prop where
 len:q.blocks.length<=m.blocks.length
 new:∀k,n<=k->k<q.blocks.length->m.blocks.getD k []=[]
 RQ:∀b,b<n->∀R:List (List ab),(∀k,k<n\/q.blocks.length<=k->k<m.blocks.length->R.getD k []=m.blocks.getD k [])->Dv q E un R b
theorem Ja (m:Mk)(l:ab)(h:m.at_<m.blocks.length):Lays m [.line l] (m.put [l]):=kI [.line l] m h
theorem xH (q:QP)(E:List (List Nat))(un:List Bool):∀n,n<=q.blocks.length->Made q E un n (bA q E un n)
 |0,_=>⟨by simp[bA],fun k _ hk=>by simp[bA,List.getD_eq_getElem?_getD,hk],fun b hb=>by omega⟩
 |n+1,hn=>by
  have ih:=xH q E un n (by omega);have mW:=ih.len;have Ut:=ih.new n (jC _) (by omega);have key:∃is,Lays (⟨(bA q E un n).blocks,n⟩:Mk) is (bA q E un (n+1))/\∀R rs,R.getD n []=rs->Laid R is rs->Dv q E un R n:=by
   rw[bA,iS];by_cases hz:E.getD n []=ak
   ·rw[jb hz];refine⟨_,Ja _ _ (by show n<(bA q E un n).blocks.length;omega),fun R rs hr hL=> ?_⟩;rw[Dv,jb hz];obtain⟨rs',h1,h2⟩:=hL;rw[hr,h1];have:rs'=[]:=h2;rw[this]
   ·rw[ja hz];refine⟨_,kI _ _ (by show n<(bA q E un n).blocks.length;omega),fun R rs hr hL=> ?_⟩;rw[Dv,ja hz,hr];exact hL
  obtain⟨is,hL,hk⟩:=key;have hlen:=hL.len;refine⟨jS mW hL.len,fun k h1 h2=> ?_,fun b hb R hR=> ?_⟩
  ·rw[hL.bz k (by show k<(bA q E un n).blocks.length;omega) (by show¬k=n;omega)];exact ih.new k (by omega) h2
  ·by_cases e:b=n
   ·subst e;obtain⟨rs,h1,h2⟩:=hL.RQ;have h3:(bA q E un (b+1)).blocks.getD b []=rs:=by
     refine h1.trans ?_;show(bA q E un b).blocks.getD b []++rs=rs
     rw[Ut];rfl
    refine hk R rs ?_ (h2 R fun k la aP=>hR k ?_ aP)
    ·rw[hR b (.inl (by omega)) (by have:(⟨(bA q E un b).blocks,b⟩:Mk).blocks.length<=_:=hL.len;simp only at this;omega),h3]
    ·rcases la with h|h
     ·left;have:k=b:=h;omega
     ·right;have:(bA q E un b).blocks.length<=k:=h;omega
   ·refine ih.RQ b (by omega) R fun k la aP=> ?_
    have Ih:k<(bA q E un (n+1)).blocks.length:=jK aP hL.len;rw[hR k (by omega) Ih,hL.bz k aP (by show¬k=n;omega)]
theorem L1 (q:QP)(E:List (List Nat)):q.blocks.length<=(lv q E).blocks.length:=(xH q E _ q.blocks.length (jC _)).len
end El
namespace El
open Go Go.RowKit Sq Aux PrjF PrjG PrjJ PrjK PrjL PrjM PrjN PrjO PrjP PrjR PrjS PrjT FlwA FlwE
theorem mD {w w':World}{v:Value}{ls:List (B×Nat)}(h:eT w v ls)(hb:Below w.heap.size w w'):eT w' v ls:=by
 obtain⟨z,h⟩:=h;exact⟨z,al h hb⟩
set_option maxRecDepth 20000 in
set_option maxHeartbeats 2000000 in
theorem xl (q:QP)(x:Nat×Nat)(v u:Value)(a:Nat)(w:World)(hp:w.heap[a]?=some (.cells #[v,u] 110 (0,0)))(hv:eT w v q.locals)(dS:q.locals.length<=4000)(hx:x.1<q.locals.length):
  Calls Tryz.prog 175 #[.pointer (some ⟨a,0,none⟩),.agg #[.int .i64 (x.1:Nat),.int .i64 (x.2:Nat)]] w fun e w'=>∃ad c,e=.returned (.slice ad (bR q x).length c)/\ay w.heap.size w' (.slice ad (bR q x).length c) (bR q x)/\Below w.heap.size w w':=by
 obtain⟨V,hV⟩:∃V,w.alloc (.cells #[.int .i64 (x.1:Nat),.int .i64 (x.2:Nat)] 119)=V:=⟨_,rfl⟩;have dk:Below w.heap.size w V:=by rw[<-hV];exact(Below.refl _ _).alloc (jC _) _
 have BI:V.heap[w.heap.size]?=some (.cells #[.int .i64 (x.1:Nat),.int .i64 (x.2:Nat)] 119 (0,0)):=by rw[<-hV];exact jD
 have oY:V.heap.size=w.heap.size+1:=by rw[<-hV];simp
 have KK:=lW q x v u a V ((dk.block a (lt_of_heap hp)).trans hp) (mD hv dk) dS hx;have KH:=fun(W:World) (hW:Below w.heap.size w W)=>cC q x v u a W ((hW.block a (lt_of_heap hp)).trans hp) (mD hv hW) hx
 have c0:V.cell? ⟨w.heap.size,0,none⟩=some (.int .i64 (x.1:Nat)):=by rw[cell_of_heap BI];rfl
 have c1:V.cell? ⟨w.heap.size,1,none⟩=some (.int .i64 (x.2:Nat)):=by rw[cell_of_heap BI];rfl
 have HC:Hid (∀W,Below V.heap.size V W->W.cell? ⟨w.heap.size,0,none⟩=some (.int .i64 (x.1:Nat))/\W.cell? ⟨w.heap.size,1,none⟩=some (.int .i64 (x.2:Nat))):=fun W hW=>⟨(hW.cell (p:=⟨w.heap.size,0,none⟩) (by show w.heap.size<_;omega)).trans c0,(hW.cell (p:=⟨w.heap.size,1,none⟩) (by show w.heap.size<_;omega)).trans c1⟩
 obtain⟨k,hk⟩:∃k,q.aT x=k:=⟨_,rfl⟩;rw[hk]at KK;by_cases h0:k=0
 ·have hb:bR q x=[]:=by unfold bR;rw[jb (hk.trans h0)]
  have t0:((k:Int)==0)=true:=by rw[h0];rfl
  rw[hb];clear hk;go_enter Tryz.func175,Tryz.ntmps175
  go_wp2_with (go_at_call 207;refine KK.mono ?_;rintro e w2 ⟨rfl,bu⟩)
  go_ret
  exact⟨none,0,rfl,World.ownsRow_nil _ _ _ _,dk.trans (bu.mono dk.size)⟩
 ·have t0:((k:Int)==0)=false:=by rw[jZ];omega
  by_cases h3:k=3
  ·have hb:bR q x=[(x.1,3)]:=by unfold bR;rw[ja (by rw[hk];exact h0),jb (hk.trans h3)]
   have t3:((k:Int)==3)=true:=by rw[h3];rfl
   rw[hb];clear hk;go_enter Tryz.func175,Tryz.ntmps175
   go_wp2_with (go_at_call 207;refine KK.mono ?_;rintro e w2 ⟨rfl,bu⟩;obtain⟨d0,d1⟩:=HC.out w2 bu)
   go_ret
   have dR:=dk.trans (bu.mono dk.size);exact⟨_,1,rfl,⟨rfl,.inr ⟨w2.heap.size,1,_,rfl,dR.size,jD,jC _,by unfold maxLen;omega,rfl,rfl⟩⟩,dR.alloc dR.size _⟩
  ·have hb:bR q x=QP.ai q x:=by unfold bR;rw[ja (by rw[hk];exact h0),ja (by rw[hk];exact h3)]
   have t3:((k:Int)==3)=false:=by rw[jZ];omega
   rw[hb];clear hk;go_enter Tryz.func175,Tryz.ntmps175
   go_wp2_with (first
    |(go_at_call 207;refine KK.mono ?_;rintro e w2 ⟨rfl,bu⟩;obtain⟨d0,d1⟩:=HC.out w2 bu;have dR:=dk.trans (bu.mono dk.size);have M9:=KH w2 dR)
    |(go_at_call 102;refine M9.mono ?_;rintro e w4 ⟨g,c,rfl,XI,JP⟩))
   go_ret
   exact⟨_,c,rfl,dI XI dR.size,dR.trans (JP.mono dR.size)⟩
end El
end Go.Proofs.YtmlgajhhnojdjaaGreatDoor

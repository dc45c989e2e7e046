import Derived.Test.YtmlgajhhnojdjaaGreatDoorRAO
namespace Go.Proofs.YtmlgajhhnojdjaaGreatDoor
namespace FlwS
open Go Sq FlwA FlwB FlwD FlwE FlwF FlwG FlwI FlwJ FlwK FlwM FlwO FlwQ
def yY (a b:Nat):Prop:=b|||a=b
theorem mB (a:Nat):yY a a:=Nat.or_self a
theorem OG {a b c:Nat}(h:yY a b)(h':yY b c):yY a c:=by
 unfold yY at*;rw[<-h',Nat.or_assoc,h]
theorem R9 (a b:Nat):yY a (a|||b):=by
 unfold yY;rw[Nat.or_comm a b,Nat.or_assoc,Nat.or_self]
theorem OF (a b:Nat):yY b (a|||b):=by
 unfold yY;rw[Nat.or_assoc,Nat.or_self]
theorem Vl {a b c:Nat}(h:yY a c)(h':yY b c):yY (a|||b) c:=by
 unfold yY at*;rw[<-Nat.or_assoc,h,h']
theorem Hu {a:Nat}(h:yY a 0):a=0:=by unfold yY at h;rwa [Nat.zero_or]at h
def ld (s t:List Nat):Prop:=∀k,k<24->yY (s.getD k 0) (t.getD k 0)
theorem Hv (s:List Nat):ld s s:=fun _ _=>mB _
theorem oS {s t u:List Nat}(h:ld s t)(h':ld t u):ld s u:=fun k hk=>OG (h k hk) (h' k hk)
theorem EJ {s t:List Nat}(hs:eI s):ld s (fD s t)/\ld t (fD s t):=by
 constructor<;>intro k hk<;>rw[kt hs.len,jb hk]
 ·exact R9 _ _
 ·exact OF _ _
theorem join_le {s t u:List Nat}(hs:eI s)(h:ld s u)(h':ld t u):ld (fD s t) u:=fun k hk=>by
 rw[kt hs.len,jb hk];exact Vl (h k hk) (h' k hk)
theorem dA (s:List Nat)(i v k:Nat):(s.set i v).getD k 0=if i=k/\k<s.length then v else s.getD k 0:=by
 rw[jA,jd,jA];by_cases h:i=k
 ·subst h;by_cases h2:i<s.length
  ·simp[h2]
  ·simp[h2]
 ·rw[ja h,ja (fun x=>h x.1)]
theorem IX {s t:List Nat}(hs:s.length=24)(ht:t.length=24)(h:ld s t)(i:Nat){u v:Nat}(huv:yY u v):ld (s.set i u) (t.set i v):=fun k hk=>by
 rw[dA,dA,hs,ht];by_cases e:i=k/\k<24
 ·rw[jb e,jb e];exact huv
 ·rw[ja e,ja e];exact h k hk
theorem o6 {u v:Nat}(huv:yY u v):∀(ps:List (Nat×Nat)) {s t:List Nat},s.length=24->t.length=24->ld s t->ld (gS u ps s) (gS v ps t)
 |[],_,_,_,_,h=>h
 |x::ps,s,t,hs,ht,h=>o6 huv ps (s:=s.set (ah x) u) (t:=t.set (ah x) v) (by simpa using hs) (by simpa using ht) (IX hs ht h _ huv)
theorem qa:∀(ps:List (Nat×Nat)) {s t:List Nat},s.length=24->t.length=24->ld s t->ld (dC ps s) (dC ps t)
 |[],_,_,_,_,h=>h
 |x::ps,s,t,hs,ht,h=>qa ps (s:=s.set (ah x) _) (t:=t.set (ah x) _) (by simpa using hs) (by simpa using ht) (IX hs ht h _ (mB _))
theorem N5 {s t:List Nat}(hs:eI s)(ht:eI t)(h:ld s t)(k:Nat):yY (s.getD k 0) (t.getD k 0):=by
 by_cases hk:k<24
 ·exact h k hk
 ·have e1:s.getD k 0=0:=by rw[jA,jG (by rw[hs.len];omega)];rfl
  have e2:t.getD k 0=0:=by rw[jA,jG (by rw[ht.len];omega)];rfl
  rw[e1,e2];exact mB 0
theorem Ij (q:QP)(x:Nat×Nat){s t:List Nat}(hs:eI s)(ht:eI t)(h:ld s t):yY (dn q x s) (dn q x t):=by
 unfold dn;split
 ·exact N5 hs ht h _
 ·exact mB _
theorem Mc (q:QP)(l:ab){s t:List Nat}(hs:eI s)(ht:eI t)(h:ld s t):ld (cG q l s) (cG q l t):=by
 unfold cG;split
 ·exact qa _ hs.len ht.len h
 ·split
  ·exact qa _ hs.len ht.len h
  ·exact h
theorem LJ (q:QP)(l:ab){s t:List Nat}(hs:eI s)(ht:eI t)(h:ld s t):ld (bm q l s) (bm q l t):=by
 have h1:=Mc q l hs ht h;have l1:=(BQ q l hs).len;have l2:=(BQ q l ht).len;unfold bm;split
 ·exact o6 (mB _) _ l1 l2 h1
 ·split
  ·exact o6 (Ij q _ hs ht h) _ l1 l2 h1
  ·split
   ·exact o6 (mB _) _ l1 l2 h1
   ·split
    ·exact qa _ l1 l2 h1
    ·exact h1
theorem BO (l:ab)(i:Nat){s t:List Nat}(hs:eI s)(ht:eI t)(h:ld s t):ld (cv l i s) (cv l i t):=by
 unfold cv;split
 ·exact o6 (mB _) _ hs.len ht.len h
 ·exact h
def kR (l:ab):List Nat->Nat->List Nat->List (Nat×List Nat)
 |[],_,_=>[]
 |n::ns,i,s=>(n,cv l i s)::kR l ns (i+1) (cv l i s)
def T9 (l:ab):List Nat->Nat->List Nat->List Nat
 |[],_,s=>s
 |_::ns,i,s=>T9 l ns (i+1) (cv l i s)
def eo (q:QP):List ab->List Nat->List (Nat×List Nat)
 |[],_=>[]
 |l::ls,s=>kR l l.next 0 (bm q l s)++eo q ls (T9 l l.next 0 (bm q l s))
def leads (M:List (Nat×List Nat))(x:List (List Nat)×(Nat->Bool)):List (List Nat)×(Nat->Bool):=M.foldl (fun x n=>(eP x.1 n.1 n.2,gY x.1 x.2 n.1 n.2)) x
theorem Db (l:ab):∀(ns:List Nat) (i:Nat) (t:St),gP l ns i t=(T9 l ns i t.1,leads (kR l ns i t.1) t.2)
 |[],_,_=>rfl
 |n::ns,i,t=>by rw[gP,Db l ns];rfl
theorem ti (q:QP):∀(ls:List ab) (t:St),(fQ q ls t).2=leads (eo q ls t.1) t.2
 |[],_=>rfl
 |l::ls,t=>by rw[fQ,ti q ls,Db,eo,leads,leads,leads,List.foldl_append]
theorem Fc (l:ab):∀(ns:List Nat) (i:Nat) {s:List Nat},eI s->eI (T9 l ns i s)
 |[],_,_,h=>h
 |_::ns,i,_,h=>Fc l ns (i+1) (gv l i h)
theorem I2 (l:ab):∀(ns:List Nat) (i:Nat) {s t:List Nat},eI s->eI t->ld s t->ld (T9 l ns i s) (T9 l ns i t)
 |[],_,_,_,_,_,h=>h
 |_::ns,i,_,_,hs,ht,h=>I2 l ns (i+1) (gv l i hs) (gv l i ht) (BO l i hs ht h)
theorem Iy (l:ab)(N:Nat):∀(ns:List Nat) (i:Nat) {s:List Nat},(∀n∈ns,n<N)->eI s->∀x∈kR l ns i s,x.1<N/\eI x.2
 |[],_,_,_,_,x,hx=>by cases hx
 |n::ns,i,s,hn,h,x,hx=>by
  rcases jP.mp hx with rfl|hx
  ·exact⟨hn n (jM ..),gv l i h⟩
  ·exact Iy l N ns (i+1) (fun m hm=>hn m (jN _ hm)) (gv l i h) x hx
theorem rn (q:QP)(N:Nat):∀(ls:List ab) {s:List Nat},(∀l∈ls,∀n∈l.next,n<N)->eI s->∀x∈eo q ls s,x.1<N/\eI x.2
 |[],_,_,_,x,hx=>by cases hx
 |l::ls,s,hn,h,x,hx=>by
  have hp:=gm q l h;rcases List.mem_append.mp hx with hx|hx
  ·exact Iy l N l.next 0 (hn l (jM ..)) hp x hx
  ·exact rn q N ls (fun m hm=>hn m (jN _ hm)) (Fc l _ _ hp) x hx
theorem Bz (l:ab):∀(ns:List Nat) (i:Nat) {s t:List Nat},eI s->eI t->ld s t->∀x∈kR l ns i s,∃y,(x.1,y)∈kR l ns i t/\ld x.2 y
 |[],_,_,_,_,_,_,x,hx=>by cases hx
 |n::ns,i,s,t,hs,ht,h,x,hx=>by
  have h1:=BO l i hs ht h;rcases jP.mp hx with rfl|hx
  ·exact⟨_,jM ..,h1⟩
  ·obtain⟨y,hy,hl⟩:=Bz l ns (i+1) (gv l i hs) (gv l i ht) h1 x hx;exact⟨y,jN _ hy,hl⟩
theorem By (q:QP):∀(ls:List ab) {s t:List Nat},eI s->eI t->ld s t->∀x∈eo q ls s,∃y,(x.1,y)∈eo q ls t/\ld x.2 y
 |[],_,_,_,_,_,x,hx=>by cases hx
 |l::ls,s,t,hs,ht,h,x,hx=>by
  have h1:=LJ q l hs ht h;have o1:=gm q l hs;have o2:=gm q l ht;rcases List.mem_append.mp hx with hx|hx
  ·obtain⟨y,hy,hl⟩:=Bz l l.next 0 o1 o2 h1 x hx;exact⟨y,List.mem_append.mpr (.inl hy),hl⟩
  ·obtain⟨y,hy,hl⟩:=By q ls (Fc l _ _ o1) (Fc l _ _ o2) (I2 l _ _ o1 o2 h1) x hx;exact⟨y,List.mem_append.mpr (.inr hy),hl⟩
theorem oT (E:List (List Nat))(n:Nat)(s:List Nat)(hn:n<E.length)(b:Nat):(eP E n s).getD b []=if b=n then fD (E.getD n []) s else E.getD b []:=by
 unfold eP;split
 ·rename_i h;split
  ·rename_i e;rw[e,h]
  ·rfl
 ·exact Gw E n _ hn b
theorem cR {s t:List Nat}(hs:eI s)(h:ld s t)(hn:¬s=ar):¬t=ar:=fun e=>hn (by
 subst e;refine V5 hs.len (by decide) fun k hk=> ?_
 have:=h k hk;have hz:ar.getD k 0=0:=by
  unfold ar;rw[jA,jO,jb hk];rfl
 rw[hz]at this⊢;exact Hu this)
structure Led (N:Nat)(M:List (Nat×List Nat))(E:List (List Nat))(O:Nat->Bool)(E1:List (List Nat))(O1:Nat->Bool):Prop where
 ok:Fy E1
 len:E1.length=N
 up:∀b,b<N->ld (E.getD b []) (E1.getD b [])
 vI:∀x∈M,ld x.2 (E1.getD x.1 [])
 shut:∀b,b<N->O1 b=false->O b=false/\E1.getD b []=E.getD b []
 live:∀b,b<N->O1 b=true->O b=true\/¬E1.getD b []=ar
 least:∀U:Nat->List Nat,(∀b,b<N->ld (E.getD b []) (U b))->(∀x∈M,ld x.2 (U x.1))->∀b,b<N->ld (E1.getD b []) (U b)
theorem x6 (N:Nat):∀(M:List (Nat×List Nat)) (E:List (List Nat)) (O:Nat->Bool),Fy E->E.length=N->(∀x∈M,x.1<N/\eI x.2)->Led N M E O (leads M (E,O)).1 (leads M (E,O)).2
 |[],E,O,hE,hl,_=>⟨hE,hl,fun _ _=>Hv _,fun x hx=>(by cases hx),fun b _ h=>⟨h,rfl⟩,fun b _ h=> .inl h,fun U h _ b hb=>h b hb⟩
 |x::M,E,O,hE,hl,hM=>by
  obtain⟨zo,Ww⟩:=hM x (jM ..);have RU:x.1<E.length:=by omega
  have hs:=hE.at RU;have hE1:=A9 hE RU Ww;have ih:=x6 N M (eP E x.1 x.2) (gY E O x.1 x.2) hE1 (by rw[x5];exact hl) (fun y hy=>hM y (jN _ hy));have e:leads (x::M) (E,O)=leads M (eP E x.1 x.2,gY E O x.1 x.2):=rfl;rw[e];have up1:∀b,b<N->ld (E.getD b []) ((eP E x.1 x.2).getD b []):=fun b hb=>by
   rw[oT E x.1 x.2 RU];split
   ·rename_i e1;rw[e1];exact(EJ hs).1
   ·exact Hv _
  refine⟨ih.ok,ih.len,fun b hb=>oS (up1 b hb) (ih.up b hb),fun y hy=> ?_,fun b hb h=> ?_,fun b hb h=> ?_,fun U h1 h2 b hb=> ?_⟩
  ·rcases jP.mp hy with rfl|hy
   ·refine oS ?_ (ih.up y.1 zo);rw[oT E y.1 y.2 RU,jb rfl];exact(EJ hs).2
   ·exact ih.vI y hy
  ·obtain⟨h1,h2⟩:=ih.shut b hb h;unfold gY at h1;split at h1
   ·rename_i hj;exact⟨h1,h2.trans (by rw[eP,jb hj])⟩
   ·rename_i hj;unfold cC at h1;split at h1
    ·cases h1
    ·rename_i ec;exact⟨h1,h2.trans (by rw[oT E x.1 x.2 RU,ja ec])⟩
  ·rcases ih.live b hb h with h1|h1
   ·unfold gY at h1;split at h1
    ·exact .inl h1
    ·rename_i hj;unfold cC at h1;split at h1
     ·rename_i kf;right;refine cR (G7 hs Ww) (?_:ld (fD (E.getD x.1 []) x.2) _) (fun hz=> ?_)
      ·have:=ih.up b hb;rw[oT E x.1 x.2 RU,jb kf]at this;exact this
      ·obtain⟨k,hk,ec⟩:=zP hs hj;have h0:(fD (E.getD x.1 []) x.2).getD k 0=0:=by
        rw[hz];unfold ar;rw[jA,jO,jb hk];rfl
       have:=(EJ (t:=x.2) hs).1 k hk;rw[h0]at this ec;exact ec (Hu this).symm
     ·exact .inl h1
   ·exact .inr h1
  ·refine ih.least U (fun c hc=> ?_) (fun y hy=>h2 y (jN _ hy)) b hb;rw[oT E x.1 x.2 RU];split
   ·rename_i e1;rw[e1];exact join_le hs (h1 x.1 zo) (h2 x (jM ..))
   ·exact h1 c hc
structure rQ (q:QP)(U:Nat->List Nat):Prop where
 ok:∀b,b<q.blocks.length->eI (U b)
 start:ld aV (U 0)
 step:∀b,b<q.blocks.length->¬U b=ar->∀x∈eo q (q.blocks.getD b []) (U b),ld x.2 (U x.1)
structure Inv (q:QP)(E:List (List Nat))(O:Nat->Bool):Prop where
 ok:Fy E
 len:E.length=q.blocks.length
 start:ld aV (E.getD 0 [])
 step:∀b,b<q.blocks.length->O b=false->¬E.getD b []=ar->∀x∈eo q (q.blocks.getD b []) (E.getD b []),ld x.2 (E.getD x.1 [])
 live:∀b,b<q.blocks.length->O b=true->¬E.getD b []=ar
 least:∀U,rQ q U->∀b,b<q.blocks.length->ld (E.getD b []) (U b)
theorem L5:¬aV=ar:=by decide
theorem Ow (q:QP)(h0:0<q.blocks.length):Inv q (eP (List.replicate q.blocks.length ar) 0 aV) (gY (List.replicate q.blocks.length ar) (fun _=>false) 0 aV):=by
 have hz:∀b,b<q.blocks.length->(List.replicate q.blocks.length ar).getD b []=ar:=fun b hb=>by simp[List.getD_eq_getElem?_getD,hb]
 have cf:Fy (List.replicate q.blocks.length ar):=fun s hs=>by rw[List.eq_of_mem_replicate hs];exact⟨by decide,pj⟩
 have L:=x6 q.blocks.length [(0,aV)] (List.replicate q.blocks.length ar) (fun _=>false) cf (by simp) (fun x hx=>by rw[jI.mp hx];exact⟨h0,p8⟩);have hle:∀U:List Nat,ld ar U:=fun U k hk=>by
  have:ar.getD k 0=0:=by unfold ar;rw[jA,jO,jb hk];rfl
  rw[this];exact Nat.or_zero _
 refine⟨L.ok,L.len,L.vI (0,aV) (jI.mpr rfl),fun b hb hO ec=> ?_,fun b hb hO=> ?_,fun U hU=>L.least U (fun b hb=>by rw[hz b hb];exact hle _) (fun x hx=>by rw[jI.mp hx];exact hU.start)⟩
 ·obtain⟨-,h2⟩:=L.shut b hb hO;have e:(leads [(0,aV)] (List.replicate q.blocks.length ar,fun _=>false)).1=eP (List.replicate q.blocks.length ar) 0 aV:=rfl;rw[e,hz b hb]at h2;exact absurd h2 ec
 ·rcases L.live b hb hO with h|h
  ·cases h
  ·exact h
theorem RY (q:QP)(mQ:∀b,b<q.blocks.length->∀l∈q.blocks.getD b [],∀n∈l.next,n<q.blocks.length)(E:List (List Nat))(O:Nat->Bool)(b:Nat)(hb:b<q.blocks.length)(hO:O b=true)(h:Inv q E O):
  Inv q (gJ q E (cC O b false) b).2.1 (gJ q E (cC O b false) b).2.2:=by
 have hbE:b<E.length:=by rw[h.len];exact hb
 have hs:=h.ok.at hbE;have e:(gJ q E (cC O b false) b).2=leads (eo q (q.blocks.getD b []) (E.getD b [])) (E,cC O b false):=ti q _ _;have L:=x6 q.blocks.length (eo q (q.blocks.getD b []) (E.getD b [])) E (cC O b false) h.ok h.len (rn q q.blocks.length _ (mQ b hb) hs);rw[<-e]at L;refine⟨L.ok,L.len,oS h.start (L.up 0 (by omega)),fun c hc hOc ec=> ?_,fun c hc hOc=> ?_,fun U hU=>L.least U (fun c hc=>h.least U hU c hc) (fun x hx=> ?_)⟩
 ·obtain⟨h1,h2⟩:=L.shut c hc hOc;rw[h2]at ec⊢;by_cases FC:c=b
  ·subst FC;exact L.vI
  ·unfold cC at h1;rw[ja FC]at h1;intro x hx;exact oS (h.step c hc h1 ec x hx) (L.up x.1 (rn q q.blocks.length _ (mQ c hc) (h.ok.at (by rw[h.len];exact hc)) x hx).1)
 ·rcases L.live c hc hOc with h1|h1
  ·unfold cC at h1;split at h1
   ·cases h1
   ·exact cR (h.ok.at (by rw[h.len];exact hc)) (L.up c hc) (h.live c hc h1)
  ·exact h1
 ·have hle:=h.least U hU b hb;obtain⟨y,hy,hxy⟩:=By q (q.blocks.getD b []) hs (hU.ok b hb) hle x hx;exact oS hxy (hU.step b hb (cR hs hle (h.live b hb hO)) (x.1,y) hy)
end FlwS
namespace RefB
open Go.RowKit Sq RefA
theorem Lo (l:B):(aj l).length<=l.length:=by
 unfold aj;split<;>simp
theorem La (l:B)(w:World)(h:l.length<=maxLen):
  Calls Tryz.prog 158 #[.string (bs l)] w fun e w'=>e=.returned (.bool (bX l))/\w'=w:=by
 have hl:=jS (Lo l) h;have h1:=aE l;have h2:=aE (aj l);go_enter Tryz.func158,Tryz.ntmps158
 go_wp2_with (first
  |(go_at_call 111;refine(vR l _ h).mono ?_;rintro e w' ⟨rfl,rfl⟩)
  |(go_at_call 108;refine(xY _ _ hl).mono ?_;rintro e w' ⟨rfl,rfl⟩)
  |(go_at_call 159;refine(vX l _ h).mono ?_;rintro e w' ⟨rfl,rfl⟩))
 all_goals
  go_ret
  refine⟨aP ?_,rfl⟩;rw[G6,jX];first|(simp[*];done)|(simp[*];omega)|simp_all
end RefB
namespace RefC
open Go.RowKit Sq RefA
theorem kF {o:Option Int}{a:Int}{b:Bool}(h:o.getD 0=a)(h':o.isSome=b):Ending.returned (.tuple #[.int .i64 a,.bool b])=.returned (.tuple #[.int .i64 (o.getD 0),.bool o.isSome]):=by rw[h,h']
theorem Dx (m:Int)(d:ByteArray)(k:Nat)(hk:¬k<d.size):cj m (d.toList.drop k)=some m:=by
 rw[jT (by rw[length_toList];omega)];rfl
theorem Dw (m:Int)(d:ByteArray)(k:Nat)(hk:k<d.size)(h:d[k].toNat<48\/57<d[k].toNat):cj m (d.toList.drop k)=none:=by
 rw[jE (by rw[length_toList];exact hk),<-getElem_toList d k hk,cj,ja];simp[digit];omega
theorem Iu (m:Int)(d:ByteArray)(k:Nat)(hk:k<d.size)(h:1000000000<10*m+((d[k].toNat:Int)-48)):cj m (d.toList.drop k)=none:=by
 rw[jE (by rw[length_toList];exact hk),<-getElem_toList d k hk,cj];by_cases hd:digit d[k]=true
 ·rw[jb hd,jb h]
 ·rw[ja hd]
theorem SG (m:Int)(d:ByteArray)(k:Nat)(hk:k<d.size)(h1:48<=d[k].toNat)(h2:d[k].toNat<=57)(h:10*m+((d[k].toNat:Int)-48)<=1000000000):cj m (d.toList.drop k)=cj (10*m+((d[k].toNat:Int)-48)) (d.toList.drop (k+1)):=by
 rw[jE (by rw[length_toList];exact hk),<-getElem_toList d k hk,cj,jb,ja (by omega)];simp[digit];omega
theorem rH (s:ByteArray)(h:0<s.size)(h0:s[0].toNat=45):dm s.toList=(s.extract 1 s.size).toList/\signed s.toList=true:=by
 have e:s.toList=s[0]::s.toList.drop 1:=by
  conv=>lhs;rw[<-List.drop_zero (l:=s.toList),jE (by rw[length_toList];exact h),<-getElem_toList s 0 h]
 have h1:s[0]=45:=(kW _ 45 (by omega)).mpr h0;rw[extract_toList];constructor
 ·rw[e,dm,jb h1,List.drop_succ_cons,List.drop_zero,List.take_of_length_le (by simp[length_toList])]
 ·rw[e,signed];simp[h1]
theorem j7 (s:ByteArray)(h:s.size=0\/∃h:0<s.size,¬s[0].toNat=45):dm s.toList=s.toList/\signed s.toList=false:=by
 rcases h with h|⟨h,h0⟩
 ·have:s.toList=[]:=List.eq_nil_of_length_eq_zero (by rw[length_toList];exact h);simp[this,dm,signed]
 ·have e:s.toList=s[0]::s.toList.drop 1:=by
   conv=>lhs;rw[<-List.drop_zero (l:=s.toList),jE (by rw[length_toList];exact h),<-getElem_toList s 0 h]
  have h1:¬s[0]=45:=fun e=>h0 ((kW _ 45 (by omega)).mp e)
  constructor
  ·conv=>lhs;rw[e]
   rw[dm,ja h1,<-e]
  ·rw[e,signed];simp[h1]
theorem y6 (s:ByteArray)(d:ByteArray)(hu:dm s.toList=d.toList)(h:d.size<1\/(∃h:0<d.size,d[0].toNat=48/\¬s.toList=[48])):number s.toList=none:=by
 rw[number,jb];rw[hu,length_toList];rcases h with h|⟨h,h0,h1⟩
 ·exact .inl h
 ·refine .inr ⟨?_,h1⟩;rw[List.head?_eq_getElem?,getElem?_toList d 0 h,(kW d[0] 48 (by omega)).mpr h0];rfl
theorem O8 (s:ByteArray)(d:ByteArray)(hu:dm s.toList=d.toList)(h:0<d.size)(h0:d[0].toNat=48->s.toList=[48]):number s.toList=(cj 0 d.toList).map fun n=>if signed s.toList then-n else n:=by
 rw[number,ja,hu]
 ·cases cj 0 d.toList<;>rfl
 ·rw[hu,length_toList];rintro(h'|⟨h',h2⟩)
  ·omega
  ·rw[List.head?_eq_getElem?,getElem?_toList d 0 h]at h';exact h2 (h0 ((kW d[0] 48 (by omega)).mp (by simpa using h')))
theorem DJ (s:ByteArray)(h:s.size=0):signed s.toList=false:=(j7 s (.inl h)).2
theorem yh (s:ByteArray)(h:0<s.size):signed s.toList=decide (s[0].toNat=45):=by
 by_cases h0:s[0].toNat=45
 ·rw[(rH s h h0).2];simp[h0]
 ·rw[(j7 s (.inr ⟨h,h0⟩)).2];simp[h0]
theorem Fl (s:ByteArray)(h:signed s.toList=true):dm s.toList=(s.extract 1 s.size).toList/\0<s.size:=by
 by_cases h0:0<s.size
 ·rw[yh s h0]at h;exact⟨(rH s h0 (by simpa using h)).1,h0⟩
 ·rw[DJ s (by omega)]at h;cases h
theorem Je (s:ByteArray)(h:signed s.toList=false):dm s.toList=s.toList:=by
 by_cases h0:0<s.size
 ·rw[yh s h0]at h;exact(j7 s (.inr ⟨h0,by simpa using h⟩)).1
 ·exact(j7 s (.inl (by omega))).1
set_option maxHeartbeats 1000000 in
theorem ej (s:ByteArray)(w:World)(hs:s.size<=maxLen):
  Calls Tryz.prog 112 #[.string s] w fun e w'=>e=.returned (.tuple #[.int .i64 ((number s.toList).getD 0),.bool (number s.toList).isSome])/\w'=w:=by
 unfold maxLen at hs;go_enter Tryz.func112,Tryz.ntmps112
 go_upto_region 2 with fail
 go_cut [5] (fun ls wc=>wc=w/\ls=.bool (signed s.toList))
 case first=>
  by_cases h0:0<s.size
  ·have hx:Hid (signed s.toList=decide (s[0].toNat=45)):=yh s h0;go_wp2
   go_meet
   case rel=>exact⟨rfl,by rw[hx.out];congr 1;rw[jX];simp;omega⟩
  ·have hx:Hid (signed s.toList=false):=DJ s (by omega);go_wp2
   go_meet
   case rel=>exact⟨rfl,by rw[hx.out]⟩
 case rest=>
  obtain⟨rfl,rfl⟩:=hcut;go_upto_if 17 with fail
  go_cut [4] (fun d wc'=>wc'=wc/\∃d':ByteArray,d=.string d'/\d'.size<=9223372036854775807/\Hid (dm s.toList=d'.toList))
  case first=>
   by_cases hg:signed s.toList=true
   ·have hu:=Fl s hg;obtain⟨YX,hu2⟩:=hu;have HU:Hid (dm s.toList=(s.extract 1 s.size).toList):=YX;clear YX;go_wp2
    ·go_meet
     case rel=>exact⟨rfl,_,rfl,by simp;omega,HU⟩
    ·exact absurd hg (by simp[‹signed s.toList=false›])
   ·have HU:Hid (dm s.toList=s.toList):=Je s (by simpa using hg);go_wp2
    go_meet
    case rel=>exact⟨rfl,_,rfl,by omega,HU⟩
  case rest=>
   obtain⟨rfl,d,rfl,ly,HU⟩:=hcut;by_cases hz:d.size=0
   ·have hn:Hid (number s.toList=none):=y6 s _ HU.out (.inl (by omega));go_wp2
    go_ret2
    exact⟨kF (by rw[hn.out];rfl) (by rw[hn.out];rfl),rfl⟩
   have Ez:0<d.size:=by omega
   clear hz;by_cases hq:d[0].toNat=48/\¬s.toList=[48]
   ·have hn:Hid (number s.toList=none):=y6 s _ HU.out (.inr ⟨by omega,hq⟩);obtain⟨hq1,XU⟩:=hq;have hb:(s.toList==[48])=false:=by simpa using XU
    clear XU;go_wp2
    go_ret2
    exact⟨kF (by rw[hn.out];rfl) (by rw[hn.out];rfl),rfl⟩
   have Hq:d[0].toNat=48->s.toList=[48]:=fun e=>by
    by_cases h':s.toList=[48]
    ·exact h'
    ·exact absurd ⟨e,h'⟩ hq
   clear hq;have hn:Hid (number s.toList=(cj 0 d.toList).map fun n=>if signed s.toList then-n else n):=O8 s _ HU.out (by omega) Hq;go_upto_region 5 with fail
   go_cut [31] (fun b wc'=>wc'=wc/\b=.bool false)
   case first=>
    by_cases hc:d[0].toNat=48
    ·have hb:(s.toList==[48])=true:=by simp[Hq hc]
     clear Hq;go_wp2
     go_meet
     case rel=>exact⟨rfl,by congr 1;simp;omega⟩
    ·clear Hq;go_wp2
     go_meet
     case rel=>exact⟨rfl,by congr 1;simp;omega⟩
   case rest=>
    obtain⟨rfl,rfl⟩:=hcut;clear Hq;go_wp2
    go_loop [6,7] (fun n i=>∃(k:Nat) (m:Int),k<=d.size/\i=.int .i64 k/\n=.int .i64 m/\0<=m/\m<=1000000000/\Hid (cj 0 d.toList=cj m (d.toList.drop k))) (fun _ i=>d.size-(intOf i).toNat)
    case atStart=>exact⟨0,0,jQ _,rfl,rfl,by omega,by omega,rfl⟩
    case round=>
     obtain⟨k,m,hk,rfl,rfl,hm0,YR,HM⟩:=hrel;by_cases aL:k<d.size
     ·go_wp2
      ·go_ret2
       have hx:number s.toList=none:=by rw[hn.out,HM.out,Dw m _ k aL (by omega)];rfl
       exact⟨kF (by rw[hx];rfl) (by rw[hx];rfl),rfl⟩
      ·go_ret2
       have hx:number s.toList=none:=by rw[hn.out,HM.out,Iu m _ k aL (by omega)];rfl
       exact⟨kF (by rw[hx];rfl) (by rw[hx];rfl),rfl⟩
      ·go_round
       case rel=>exact⟨k+1,10*m+((d[k].toNat:Int)-48),by omega,by go_num,by go_num,by omega,by omega,by rw[HM.out];exact SG m _ k aL (by omega) (by omega) (by omega)⟩
       case measure=>simp[intOf];omega
      ·go_ret2
       have hx:number s.toList=none:=by rw[hn.out,HM.out,Dw m _ k aL (by omega)];rfl
       exact⟨kF (by rw[hx];rfl) (by rw[hx];rfl),rfl⟩
     ·go_wp2
      ·go_ret2
       have hx:number s.toList=some (-m):=by rw[hn.out,HM.out,Dx m _ k aL,‹signed s.toList=true›];rfl
       exact⟨kF (by rw[hx];rfl) (by rw[hx];rfl),rfl⟩
      ·go_ret2
       have hx:number s.toList=some m:=by rw[hn.out,HM.out,Dx m _ k aL,‹signed s.toList=false›];rfl
       exact⟨kF (by rw[hx];rfl) (by rw[hx];rfl),rfl⟩
theorem ya (l:B)(w:World)(h:l.length<=maxLen):
  Calls Tryz.prog 112 #[.string (bs l)] w fun e w'=>e=.returned (.tuple #[.int .i64 ((number l).getD 0),.bool (number l).isSome])/\w'=w:=by
 have:=ej (bs l) w (by rw[dR];exact h)
 rwa [aE]at this
end RefC
namespace RefD
open Go.RowKit Sq RefA RefB RefC
def known:List B:=[[115,101,116],[97,100,100],[115,117,98],[109,117,108],[100,105,118],[105,110],[111,117,116],[101,110,100],[110,101,119],[115,116,111,114,101],[108,111,97,100],[109,111,118,101],[110,111,110,101],[115,111,109,101],[103,111,116,111],[105,102],[109,97,116,99,104],[100,114,111,112],[102,114,101,101],[102,108,97,103],[116,101,115,116]]
theorem VN {a b:ByteArray}{x y:Bool}(h:a=b)(h':x=y):Ending.returned (.tuple #[.string a,.bool x])=.returned (.tuple #[.string b,.bool y]):=by rw[h,h']
theorem JJ (l:B)(r:Bool)(h:l∉known):behind l r=([],false):=by
 simp only[known,List.mem_cons,List.not_mem_nil,or_false,not_or]at h;simp[behind,h]
set_option maxHeartbeats 2000000 in
theorem D4 (l:B)(r:Bool)(w:World)(h:l∈known):
  Calls Tryz.prog 87 #[.string (bs l),.bool r] w fun e w'=>e=.returned (.tuple #[.string (bs (behind l r).1),.bool (behind l r).2])/\w'=w:=by
 have ht:=aE l;simp only[known,List.mem_cons,List.not_mem_nil,or_false]at h;rcases h with rfl|rfl|rfl|rfl|rfl|rfl|rfl|rfl|rfl|rfl|rfl|rfl|rfl|rfl|rfl|rfl|rfl|rfl|rfl|rfl|rfl
 all_goals
  go_enter Tryz.func87,Tryz.ntmps87
  go_wp2
  go_ret2
  exact⟨VN (by simp[behind,bs]) (by simp[behind]),rfl⟩
set_option maxHeartbeats 2000000 in
theorem D5 (l:B)(r:Bool)(w:World)(h:l∉known):
  Calls Tryz.prog 87 #[.string (bs l),.bool r] w fun e w'=>e=.returned (.tuple #[.string (bs (behind l r).1),.bool (behind l r).2])/\w'=w:=by
 have ht:=aE l;rw[JJ l r h];have h':∀x∈known,(l==x)=false:=fun x hx=>jZ.mpr (fun e=>h (e▸hx))
 clear h;simp only[known,List.forall_mem_cons,List.not_mem_nil,false_implies,implies_true,and_true]at h';obtain⟨h1,h2,h3,h4,h5,h6,h7,h8,h9,V6,oM,cg,Eo,B6,sv,YE,YF,sw,Uz,P6,h21⟩:=h';go_enter Tryz.func87,Tryz.ntmps87
 go_wp2
 go_ret2
 exact⟨rfl,rfl⟩
theorem rT (l:B)(r:Bool)(w:World):
  Calls Tryz.prog 87 #[.string (bs l),.bool r] w fun e w'=>e=.returned (.tuple #[.string (bs (behind l r).1),.bool (behind l r).2])/\w'=w:=by
 by_cases h:l∈known
 ·exact D4 l r w h
 ·exact D5 l r w h
theorem qc (k:UInt8)(n:Nat)(hn:n<256):((k.toNat:Int)==(n:Int))=decide (k=UInt8.ofNat n):=by
 rw[jX,decide_eq_true_eq,kW k n hn];simp;omega
theorem Mn (k:UInt8)(l:B):iC k l=
  if((k.toNat:Int)==105)=true\/((k.toNat:Int)==111)=true then isName l
  else if((k.toNat:Int)==112)=true\/((k.toNat:Int)==109)=true\/((k.toNat:Int)==100)=true then bX l
  else if((k.toNat:Int)==110)=true then(number l).isSome
  else if((k.toNat:Int)==78)=true then(number l).isSome&&decide (0<=(number l).getD 0)
  else if((k.toNat:Int)==102)=true then(number l).isSome&&decide (0<=(number l).getD 0)&&decide ((number l).getD 0<50)
  else(number l).isSome&&(decide ((number l).getD 0=0)||decide ((number l).getD 0=1)):=by
 have e:=fun n hn=>qc k n hn
 have e1:=e 105 (by omega);have e2:=e 111 (by omega);have e3:=e 112 (by omega);have e4:=e 109 (by omega);have e5:=e 100 (by omega);have e6:=e 110 (by omega);have e7:=e 78 (by omega);have e8:=e 102 (by omega);simp only[Int.cast_ofNat_Int]at e1 e2 e3 e4 e5 e6 e7 e8;rw[e1,e2,e3,e4,e5,e6,e7,e8];simp only[decide_eq_true_eq,iC];cases number l<;>rfl
theorem P2 (k:UInt8)(l:B)(w:World)(h:l.length<=maxLen):
  Calls Tryz.prog 109 #[.int .u8 k.toNat,.string (bs l)] w fun e w'=>e=.returned (.bool (iC k l))/\w'=w:=by
 go_enter Tryz.func109,Tryz.ntmps109
 go_wp2_with (first
  |(go_at_call 112;refine(ya l _ h).mono ?_;rintro e w' ⟨rfl,rfl⟩)
  |(go_at_call 108;refine(xY _ _ h).mono ?_;rintro e w' ⟨rfl,rfl⟩)
  |(go_at_call 158;refine(La l _ h).mono ?_;rintro e w' ⟨rfl,rfl⟩))
 all_goals
  go_ret
  refine⟨aP ?_,rfl⟩;go_light
  rw[Mn];first|(simp[*];done)|(simp[*];omega)|(rw[jX];simp[*];done)|(rw[jX];simp[*];omega)
end RefD
namespace RefE
open Go.RowKit Sq RefA Aux
theorem G2:(Tryz.prog.info? 9).map (fun i=>(i.zero,i.size,i.bytes))=some (some (.string ⟨#[]⟩),1,16):=by kernel_rfl
set_option maxRecDepth 20000 in
set_option maxHeartbeats 1000000 in
theorem yi (s:ByteArray)(c:UInt8)(w:World)(hs:s.size<=1099511627776):
  Calls Tryz.prog 67 #[.string s,.int .u8 c.toNat] w fun e w'=>∃v,e=.returned v/\w'.ownsRow w.heap.size 9 1 v (split c s.toList).length (cellsOf (split c s.toList))/\Below w.heap.size w w':=by
 obtain⟨i,hi,A1,Ez,xX⟩:=info_parts G2;have HS:Hid (s.size<=1099511627776):=hs
 replace hs:s.size<=9223372036854775806:=by omega
 go_enter Tryz.func67,Tryz.ntmps67
 go_wp2
 go_loopw [5,6,7] (fun v fr i wr=>∃(k f:Nat) (done:List B),f<=k/\k<=s.size+1/\i=.int .i64 k/\fr=.int .i64 f/\wr.ownsRow w.heap.size 9 1 v done.length (cellsOf done)/\Below w.heap.size w wr/\Hid (k<=s.size->kg c s.toList done f k)/\Hid (k=s.size+1->split c s.toList=done)) (fun _ _ i _=>s.size+1-(intOf i).toNat)
 case atStart=>exact⟨0,0,[],jC _,jQ _,rfl,rfl,World.ownsRow_nil _ _ _ _,Below.refl _ _,fun _=>EU _ _,fun h=>by omega⟩
 case round=>
  obtain⟨k,f,done,hf,hk,rfl,rfl,js,hb,H1,H2⟩:=hrel;by_cases hle:k<=s.size
  ·have hlen:Hid (done.length<=s.size):=by have:=Cz (H1.out hle);rwa [length_toList]at this
   have ly:=hb.size;by_cases aL:k<s.size
   ·by_cases hc:s[k].toNat=c.toNat
    ·have FC:((s[k].toNat:Int)==(c.toNat:Int))=true:=by simp[hc]
     have HC:Hid (s[k].toNat=c.toNat):=hc;clear hc;go_wp2_with (at_builtin;go_must (refine Aj rfl _ _ 34 rfl w.heap.size 9 i (.string ⟨#[]⟩) 16 Tryz.underlying34 hi A1 Ez xX rfl _ _ _ rfl js _ rfl rfl (by decide) (by have:=hlen.out;have:=HS.out;omega) ly ?_);intro v' w1 hown' hgrow)
     go_roundw
     case rel=>
      refine⟨k+1,k+1,done++[(s.toList.drop f).take (k-f)],jC _,by omega,by go_num,by go_num,?_,fu hb (jC _) ly js hgrow,fun _=> ?_,fun h=> ?_⟩
      ·rw[extract_eq]at hown';simpa [cellsOf]using hown'
      ·exact Pk (H1.out hle) (by rw[length_toList];exact aL) (by rw[<-getElem_toList s k aL];exact UInt8.toNat_inj.mp HC.out)
      ·omega
     case measure=>simp[intOf];omega
    ·have FC:((s[k].toNat:Int)==(c.toNat:Int))=false:=by simp;omega
     have HC:Hid (¬s[k].toNat=c.toNat):=hc;clear hc;go_wp2
     go_roundw
     case rel=>
      refine⟨k+1,f,done,by omega,by omega,by go_num,by go_num,js,hb,fun _=> ?_,fun h=> ?_⟩
      ·exact Pl (H1.out hle) hf (by rw[length_toList];exact aL) (by rw[<-getElem_toList s k aL];exact fun e=>HC.out (by rw[e]))
      ·omega
     case measure=>simp[intOf];omega
   ·obtain rfl:k=s.size:=by omega
    go_wp2_with (at_builtin;refine Aj rfl _ _ 34 rfl w.heap.size 9 i (.string ⟨#[]⟩) 16 Tryz.underlying34 hi A1 Ez xX rfl _ _ _ rfl js _ rfl rfl (by decide) (by have:=hlen.out;have:=HS.out;omega) ly ?_;intro v' w1 hown' hgrow)
    go_roundw
    case rel=>
     refine⟨s.size+1,s.size+1,done++[(s.toList.drop f).take (s.size-f)],jC _,by omega,by go_num,by go_num,?_,fu hb (jC _) ly js hgrow,fun _=> ?_,fun h=> ?_⟩
     ·rw[extract_eq]at hown';simpa [cellsOf]using hown'
     ·omega
     ·exact LI (H1.out hle) (length_toList s).symm
    case measure=>simp[intOf]
  ·go_wp2
   go_ret
   have e:=H2.out (by omega);exact⟨_,rfl,by rw[e];exact js,hb⟩
theorem To (l:B)(c:UInt8)(w:World)(h:l.length<=1099511627776):
  Calls Tryz.prog 67 #[.string (bs l),.int .u8 c.toNat] w fun e w'=>∃v,e=.returned v/\w'.ownsRow w.heap.size 9 1 v (split c l).length (cellsOf (split c l))/\Below w.heap.size w w':=by
 have:=yi (bs l) c w (by rw[dR];exact h)
 rwa [aE]at this
end RefE
namespace RefF
open Go.RowKit Sq RefA Aux
theorem G3 (p:RP)(k:Nat)(hk:k<p.lines.length):p.inside (k+1)=if word (p.line k) 0=aR then true else if ends (word (p.line k) 0)then false else p.inside k:=by
 unfold RP.inside;rw[List.take_add_one,jB hk];have:p.line k=p.lines[k]:=by simp[RP.line,hk]
 rw[this,Option.toList_some,List.reverse_append,List.reverse_singleton,List.singleton_append,lK]
set_option maxRecDepth 20000 in
set_option maxHeartbeats 1000000 in
theorem iu (p:RP)(a i:Nat)(w:World)(hp:bf w a p)(cf:p.Ok)(hi:i<=p.lines.length):
  Calls Tryz.prog 69 #[.pointer (some ⟨a,0,none⟩),.int .i64 i] w fun e w'=>e=.returned (.bool (p.inside i))/\∃n,w'=w.drewN n:=by
 have ly:=cf.size;go_enter Tryz.func69,Tryz.ntmps69
 go_wp2
 go_loopw [5] (fun kk wr=>∃k:Nat,k<=i/\kk=.int .i64 ((k:Int)-1)/\Hid (p.inside i=p.inside k)/\∃n,wr=w.drewN n) (fun kk _=>(intOf kk+1).toNat)
 case atStart=>exact⟨i,jC _,by go_num,rfl,0,rfl⟩
 case round=>
  obtain⟨k,hk,rfl,HI,n,rfl⟩:=hrel;by_cases h0:k=0
  ·subst h0;go_wp2
   go_ret
   exact⟨aP (by rw[HI.out];rfl),n,rfl⟩
  ·obtain⟨k,rfl⟩:∃j,k=j+1:=⟨k-1,by omega⟩;have tN:k<p.lines.length:=by omega
   obtain⟨g,cap,gl,dt,kq,vB,oa,xQ,hw⟩:=hp.gH k tN;have tQ:=cf.words k tN;have qT:=hw 0 (by omega);have HS:Hid (_=_):=G3 p k tN;go_wp2_with (go_at_call 85;refine(Ee _ _).mono ?_;rintro e w' ⟨rfl,rfl⟩)
   ·go_ret
    exact⟨aP (by rw[HI.out,HS.out,jb (by simpa using‹(word (p.line k) 0==_)=true›)]),n,rfl⟩
   ·go_ret
    exact⟨aP (by rw[HI.out,HS.out,ja (by simpa using‹(word (p.line k) 0==_)=false›),jb ‹_›]),n,rfl⟩
   ·go_roundw
    case rel=>exact⟨k,by omega,rfl,by rw[HI.out,HS.out,ja (by simpa using‹(word (p.line k) 0==_)=false›),ja (by simp[*])];rfl,n,rfl⟩
    case measure=>simp[intOf]
end RefF
namespace RefG
open Go.RowKit Sq RefA Aux
theorem NY (p:RP)(name:B)(k:Nat)(hk:k<p.lets.length):p.ji name (p.lets.drop k) k=if word (p.line (p.lets.getD k 0)) 1=name then(k:Int)else p.ji name (p.lets.drop (k+1)) (k+1):=by
 rw[jE hk,RP.ji];have:p.lets.getD k 0=p.lets[k]:=by simp[hk]
 rw[this]
set_option maxRecDepth 20000 in
set_option maxHeartbeats 1000000 in
theorem mi (p:RP)(a:Nat)(name:B)(w:World)(hp:bf w a p)(cf:p.Ok):
  Calls Tryz.prog 110 #[.pointer (some ⟨a,0,none⟩),.string (bs name)] w fun e w'=>e=.returned (.int .i64 (p.find name))/\∃n,w'=w.drewN n:=by
 have ly:=cf.size;have la:=cf.Hz;obtain⟨bl,cl,hlen⟩:=hp.q9;go_enter Tryz.func110,Tryz.ntmps110
 go_wp2
 go_loopw [5] (fun kk wr=>∃k:Nat,k<=p.lets.length/\kk=.int .i64 k/\Hid (p.find name=p.ji name (p.lets.drop k) k)/\∃n,wr=w.drewN n) (fun kk _=>p.lets.length-(intOf kk).toNat)
 case atStart=>exact⟨0,jQ _,rfl,rfl,0,rfl⟩
 case round=>
  obtain⟨k,hk,rfl,HI,n,rfl⟩:=hrel;by_cases aL:k<p.lets.length
  ·clear hlen;obtain⟨gt,ct,ht1,ht1',X3⟩:=hp.EK k aL;have xU:p.lets.getD k 0∈p.lets:=by simp[aL]
   obtain⟨tn,Dh⟩:=cf.lets _ xU;have HS:Hid (_=_):=NY p name k aL;generalize p.lets.getD k 0=t at*;obtain⟨g,cap,gl,dt,kq,vB,oa,xQ,hw⟩:=hp.gH t tn;have tQ:=hw 1 (by omega);have tP:(t:Int)<p.lines.length:=by omega
   have ht3:(1:Int)<(p.line t).length:=by omega
   go_wp2
   go_quiet (fail)
   go_wp2
   ·go_ret
    refine⟨zY ?_,n+nq,by simp⟩;rw[HI.out,HS.out,jb (by simpa using‹(word (p.line t) 1==name)=true›)]
   ·go_roundw
    case rel=>exact⟨k+1,by omega,by go_num,by rw[HI.out,HS.out,ja (by simpa using‹(word (p.line t) 1==name)=false›)];rfl,n+nq,rfl⟩
    case measure=>simp[intOf];omega
  ·go_wp2
   go_ret
   refine⟨zY ?_,n,rfl⟩;rw[HI.out,jT (by omega)];rfl
end RefG
namespace RefH
open Go.RowKit Sq RefA RefB RefG Aux
theorem qc (k:UInt8)(n:Nat)(hn:n<256):((k.toNat:Int)==(n:Int))=decide (k=UInt8.ofNat n):=by
 rw[jX,decide_eq_true_eq,kW k n hn];simp;omega
theorem Mg (p:RP)(l:B):p.typeOf l=
  if(((partOf l).toNat:Int)==97)=true\/(((partOf l).toNat:Int)==98)=true then(if(!(p.j6 l==[112,97,105,114]))=true then []else [98,111,120])
  else if(((partOf l).toNat:Int)==115)=true then(if(!(p.j6 l==[111,112,116]))=true then []else [98,111,120])else p.j6 l:=by
 have e1:=qc (partOf l) 97 (by omega);have e2:=qc (partOf l) 98 (by omega);have e3:=qc (partOf l) 115 (by omega);simp only[Int.cast_ofNat_Int]at e1 e2 e3;rw[e1,e2,e3];simp only[decide_eq_true_eq,RP.typeOf,cm,eH,kA,Bool.not_eq_true',beq_eq_false_iff_ne,ne_eq,ite_not];rfl
set_option maxRecDepth 20000 in
set_option maxHeartbeats 1000000 in
theorem iB (p:RP)(a:Nat)(l:B)(w:World)(hp:bf w a p)(cf:p.Ok)(hl:l.length<=maxLen)(hf:0<=p.find (aj l)):
  Calls Tryz.prog 113 #[.pointer (some ⟨a,0,none⟩),.string (bs l)] w fun e w'=>e=.returned (.string (bs (p.typeOf l)))/\∃n,w'=w.drewN n:=by
 obtain⟨j,hj,ou,_⟩:=RP.eA hf;have HT:Hid (p.j6 l=word (p.line (p.lets.getD j 0)) 2):=by unfold Hid RP.j6;rw[hj];rfl
 have ly:=cf.size;have la:=cf.Hz;obtain⟨gt,ct,ht1,ht1',X3⟩:=hp.EK j ou;have xU:p.lets.getD j 0∈p.lets:=by simp[ou]
 obtain⟨tn,Dh⟩:=cf.lets _ xU;generalize p.lets.getD j 0=t at*;obtain⟨g,cap,gl,dt,kq,vB,oa,xQ,hw⟩:=hp.gH t tn;have tQ:=hw 2 (by omega);have tP:(t:Int)<p.lines.length:=by omega
 have ht3:(2:Int)<(p.line t).length:=by omega
 have hj0:(j:Int)<p.lets.length:=by omega
 have HF:∀n,Calls Tryz.prog 110 #[.pointer (some ⟨a,0,none⟩),.string (bs (aj l))] (w.drewN n) fun e w'=>e=.returned (.int .i64 j)/\∃m,w'=w.drewN m:=fun n=>
  (mi p a (aj l) (w.drewN n) (hp.drewN n) cf).mono fun e w' ⟨he,m,hm⟩=>⟨by rw[he,hj],n+m,by rw[hm];simp⟩
 clear hj hf;go_enter Tryz.func113,Tryz.ntmps113
 go_wp2
 go_quiet ((first|(go_at_call 111;exact Calls.quiet_of_same (vR l _ hl))|(go_at_call 110;exact HF _)))
 go_wp2_with (go_at_call 159;refine(vX l _ hl).mono ?_;rintro e w' ⟨rfl,rfl⟩)
 all_goals
  go_ret
  refine⟨oi ?_,_,rfl⟩;go_light
  rw[Mg,HT.out];simp[bs, *]
end RefH
end Go.Proofs.YtmlgajhhnojdjaaGreatDoor

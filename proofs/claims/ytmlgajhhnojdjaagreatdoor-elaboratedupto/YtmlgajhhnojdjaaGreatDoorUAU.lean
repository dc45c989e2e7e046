import Derived.Test.YtmlgajhhnojdjaaGreatDoorUAT
import Derived.Test.YtmlgajhhnojdjaaGreatDoorUAS
namespace Go.Proofs.YtmlgajhhnojdjaaGreatDoor
namespace FlwZ
open Go Go.RowKit Sq Aux PrjF PrjG PrjJ PrjK PrjM PrjS PrjW PrjX RefM FlwF FlwI FlwK FlwM FlwO FlwP FlwQ FlwR FlwV FlwX FlwY
theorem xr {text:B}{raw:Bool}{c k:Nat}(h:az text raw=(none,c,k)):1<=c/\bY text raw=(none,c,k):=by
 have hc:1<=c:=by
  by_cases hlong:(split 10 text).length>(if raw then 4000 else 120)
  ·rw[az,jb hlong]at h;simp only[Prod.mk.injEq]at h;omega
  ·rw[az,ja hlong]at h;split at h
   ·simp only[Prod.mk.injEq]at h;omega
   ·split at h
    ·simp only[Prod.mk.injEq]at h;omega
    ·split at h
     ·simp only[Prod.mk.injEq]at h;omega
     ·split at h
      ·simp only[Prod.mk.injEq]at h;omega
      ·cases h
 refine⟨hc,?_⟩;have h2:=(mO text raw).1;rw[h]at h2;simp only at h2;cases hr:bY text raw with
 |mk op ck=>
  rw[hr]at h2;simp only at h2;subst h2;cases op with
  |none=>rfl
  |some p=>have:=(oJ hr).2.1;omega
theorem gq {text:B}{raw:Bool}{q:QP}{c k:Nat}(h:az text raw=(some q,c,k)):c=0/\k=0/\∃p,bY text raw=(some p,0,0)/\AN text raw p q:=by
 obtain⟨p,hb⟩:=M9 (text:=text) (raw:=raw) (q:=q) (by rw[h]);have h2:=(mO text raw).1;have e:bY text raw=(some p,(bY text raw).2.1,(bY text raw).2.2):=by rw[<-hb.ref]
 obtain⟨-,e1,e2,-⟩:=oJ e;have e3:bY text raw=(some p,0,0):=by rw[e,e1,e2]
 rw[h,e3]at h2;simp only[Prod.mk.injEq]at h2;exact⟨h2.1,h2.2,p,e3,hb⟩
theorem LJ {z a:Nat}{w w':World}{q:QP}(h:AR z a w q)(hb:Below w.heap.size w w'):AR z a w' q:=by
 obtain⟨vl,vb,us,vss,hp⟩:=h.at_;exact⟨⟨vl,vb,us,vss,hp.below hb⟩,h.ok,h.locals,h.blocks,h.lines⟩
theorem yA {text:B}{p:RP}{q:QP}(h:AN text false p q):0<q.blocks.length:=by
 rw[h.len];exact h.ok.first.1
theorem Ot {text:B}{p:RP}{q:QP}{z a:Nat}{w:World}(hB:AN text false p q)(hG:AR z a w q):Calls Tryz.prog 54 #[.pointer (some ⟨a,0,none⟩)] w fun e w'=>
  (∃E',oZ text p q E'/\e=.returned (Bz (aQ (cC q E') q.blocks.length 0)))/\Below w.heap.size w w':=by
 obtain⟨vl,vb,us,vss,hp⟩:=hG.at_;refine(yr hp (yA hB) hG.blocks hB.k8 hB.Kt hG.lines (D7 q) (zm q (yA hB)) (fun E O b _ _ hb hO hI=>Cd q hB.Kt hB.k8 E O b hb hO hI)).mono ?_;rintro e w' ⟨⟨E',-,-,hI,rfl⟩,hb⟩;exact⟨⟨E',⟨hB,hI,(yA hB)⟩,rfl⟩,hb⟩
def kk (text:B)(w:World)(e:Ending)(w':World):Prop:=
 Below w.heap.size w w'/\((∃c k:Nat,1<=c/\bY text false=(none,c,k)/\e=.returned (.tuple #[.pointer none,.int .i64 (c:Int),.int .i64 (k:Int)]))\/
  ∃p q E,bY text false=(some p,0,0)/\az text false=(some q,0,0)/\oZ text p q E/\((∃n:Nat,aQ (cC q E) q.blocks.length 0=some n/\e=.returned (.tuple #[.pointer none,.int .i64 5,.int .i64 (n:Int)]))\/
   (aQ (cC q E) q.blocks.length 0=none/\∃a z,e=.returned (.tuple #[.pointer (some ⟨a,0,none⟩),.int .i64 0,.int .i64 0])/\w.heap.size<=z/\AR z a w' q)))
def iJ (text:B)(c k:Int):Prop:=(∃c' k':Nat,1<=c'/\bY text false=(none,c',k')/\c=c'/\k=k')\/
  ∃p q E,bY text false=(some p,0,0)/\az text false=(some q,0,0)/\oZ text p q E/\((∃n:Nat,aQ (cC q E) q.blocks.length 0=some n/\c=5/\k=n)\/(aQ (cC q E) q.blocks.length 0=none/\c=0/\k=0))
theorem kk.bX {text:B}{w w':World}{e:Ending}(h:kk text w e w'):Below w.heap.size w w'/\∃v c k,e=.returned (.tuple #[v,.int .i64 c,.int .i64 k])/\iJ text c k:=by
 obtain⟨hb,h|⟨p,q,E,h1,hq,h2,⟨n,h3,rfl⟩|⟨h3,a,z,rfl,-⟩⟩⟩:=h
 ·obtain⟨c,k,h0,h1,rfl⟩:=h;exact⟨hb,_,_,_,rfl,.inl ⟨c,k,h0,h1,rfl,rfl⟩⟩
 ·exact⟨hb,_,_,_,rfl,.inr ⟨p,q,E,h1,hq,h2,.inl ⟨n,h3,rfl,rfl⟩⟩⟩
 ·exact⟨hb,_,_,_,rfl,.inr ⟨p,q,E,h1,hq,h2,.inr ⟨h3,rfl,rfl⟩⟩⟩
end FlwZ
namespace RunB
open Go Sq Aux Go.Proofs.YtmlgajhhnojdjaaGreatDoor.Own RunA PrjS FlwA FlwB FlwC FlwD FlwE FlwF FlwG FlwH FlwI FlwJ FlwK FlwM FlwO FlwP FlwQ FlwS FlwV FlwY FlwZ
structure Steps (q:QP)(J:List Nat->Own.Own->Prop):Prop where
 cz:∀l s o,eU q l->ik l.op->ey s->aE q l s=false->J s o->o.rO l=true/\J (aq q l s) (o.cz q l)
 Wc:∀l s o,eU q l->l.op=6->ey s->aE q l s=false->J s o->J (aq q l s) (o.calc l)
 new:∀l s o,eU q l->l.op=9->ey s->aE q l s=false->J s o->J (aq q l s) ((o.drop [ag l 0]).new (ag l 0) (o.num (ag l 1)))
 term:∀l s o,eU q l->l.op=18\/l.op=19\/l.op=20->ey s->aE q l s=false->J s o->J (dm l (if o.other l then 1 else 0) s) o
 mono:∀s t o,ey s->ey t->jv s t->J s o->J t o
def TL (q:QP)(J:List Nat->Own.Own->Prop)(room:Int)(bX:Nat×Int×Own.Own):Prop:=
 ∃s o,J s o/\((bX=(2,0,o))\/(bX=(4,0,o))\/(∃l,eU q l/\l.op=9/\(o.drop [ag l 0]).yd.live≥room/\bX=(3,0,o.drop [ag l 0]))\/∃l,eU q l/\l.op=22/\bX=(1,o.num (ag l 0),o.dt q q.locals.length))
theorem ko {q:QP}(bU:q.locals.length<=12):Steps q (gG q) where
 cz:=fun _ _ _ hl A9 _ hf h=>PJ hl bU hf h A9
 Wc:=fun _ _ _ hl ak _ _ h=>Ob hl h ak
 new:=fun _ _ _ _ ak _ _ h=>Sp h ak _
 term:=fun _ _ _ _ _ _ _ h=>Qr bU h
 mono:=fun _ _ _ _ ht hl h=>j7.mono h ht.len hl
theorem sc {l:ab}{ls:List ab}(h:Whole (l::ls)):(18<=l.op/\ls=[])\/(l.op<18/\Whole ls):=by
 obtain⟨us,t,e,h1,h2⟩:=h;cases us with
 |nil=>simp only[List.nil_append,List.cons.injEq]at e;exact .inl ⟨by rw[e.1];exact h1,e.2⟩
 |cons a us=>
  simp only[List.cons_append,List.cons.injEq]at e;exact .inr ⟨by rw[e.1];exact h2 a (jM ..),us,t,e.2,h1,fun m hm=>h2 m (jN _ hm)⟩
theorem Co {q:QP}{l:ab}(hl:eU q l)(h:l.op<18):l.next=[]:=by
 have key:∀op:Fin 18,((ah op.val).filter (·==98)).length=0:=by decide
 have:=hl.ok.pa;rw[show((ah l.op).filter (·==98)).length=0 from key ⟨l.op,h⟩]at this;exact List.length_eq_zero_iff.mp this
theorem pX {q:QP}{l:ab}(hl:eU q l):ik l.op\/l.op=6\/l.op=9\/l.op=18\/l.op=19\/l.op=20\/l.op=22:=by
 have h1:=hl.ok.op;have h2:=hl.ok.Kp;have h3:=hl.has;unfold iq at h3;unfold ik;by_cases e:l.op=16\/l.op=17\/l.op=21
 ·rw[ja (by omega),jb e]at h3;cases h3
 ·omega
theorem Kr (l:ab)(s:List Nat){i:Nat}(hi:i<l.next.length)(h2:l.next.length<=2):(l.next.getD i 0,dm l i s)∈mJ l l.next 0 s:=by
 match hn:l.next,h2 with
 |[],_=>rw[hn]at hi;simp at hi
 |[n],_=>
  rw[hn]at hi;have:i=0:=by simp at hi;omega
  subst this;simp[mJ]
 |[n,m],_=>
  rw[hn]at hi;have:i=0\/i=1:=by simp at hi;omega
  rcases this with rfl|rfl
  ·simp[mJ]
  ·have e:dm l 1 (dm l 0 s)=dm l 1 s:=by
    unfold dm;split
    ·simp only[gu,List.foldl_cons,List.foldl_nil,List.set_set]
    ·rfl
   simp[mJ,e]
 |_::_::_::_,h=>simp at h
theorem TE {q:QP}{l:ab}(bU:q.locals.length<=12)(hl:eU q l):Q6 l:=fun x hx=>by have:=(hl.ok.places x hx).1;omega
theorem Jj {q:QP}{J:List Nat->Own.Own->Prop}(bU:q.locals.length<=12)(hS:Shape q)(hq:AE q.blocks.length q)(U:Nat->List Nat)(hU:oe q U)(hfull:∀b,b<q.blocks.length->U b=au\/Full (U b))
  (gv:∀b,b<q.blocks.length->¬U b=au->dA q (q.blocks.getD b []) (U b)=none) (H:Steps q J) (room:Int):
  ∀(f:Nat) (ls:List ab) (s:List Nat) (o:Own.Own),Whole ls->(∀l∈ls,eU q l)->ey s->Full s->dA q ls s=none->(∀x∈fT q ls s,jv x.2 (U x.1))->J s o->∃bX,df q room f ls o=some bX/\TL q J room bX
 |f,[],s,o,hw,_,_,_,_,_,_=>by
  obtain⟨us,t,e,-⟩:=hw;simp at e
 |0,l::ls,s,o,_,_,_,_,_,_,h=>⟨(2,0,o),rfl,s,o,h,.inl rfl⟩
 |f+1,l::ls,s,o,hw,pK,hs,hf,Is,hout,h=>by
  have hl:=pK l (jM ..);rw[dA]at Is;have Dd:aE q l s=false:=by
   cases hv:aE q l s with
   |false=>rfl
   |true=>rw[hv,jb rfl]at Is;cases Is
  rw[Dd,ja (by decide)]at Is;rcases sc hw with⟨kK,rfl⟩|⟨kK,QT⟩
  ·have ho:=pX hl;unfold ik at ho;by_cases AW:l.op=22
   ·refine⟨_,?_,s,o,h,.inr (.inr (.inr ⟨l,hl,AW,rfl⟩))⟩;rw[df,ja (by omega),ja (by omega),ja (by omega),jb AW]
   ·have ak:l.op=18\/l.op=19\/l.op=20:=by omega
    have iP:l.next.length=if l.op=18 then 1 else 2:=by
     rw[hl.ok.pa];rcases ak with e|e|e<;>rw[e]<;>rfl
    have hi:(if o.other l then 1 else 0)<l.next.length:=by
     rw[iP];by_cases e:l.op=18
     ·have:o.other l=false:=by rw[Own.other,ja (by omega),ja (by omega)]
      rw[this,jb e];decide
     ·rw[ja e];split<;>omega
    have hp:aq q l s=s:=kV (by rcases ak with e|e|e<;>rw[e]<;>rfl) (by omega) (by omega) (by omega);have mw:=Kr l s hi (by rw[iP];split<;>omega);have hle:=hout (l.next.getD (if o.other l then 1 else 0) 0,dm l (if o.other l then 1 else 0) s) (by rw[fT,hp];exact List.mem_append_left _ mw);have hb:l.next.getD (if o.other l then 1 else 0) 0<q.blocks.length:=hl.ok.next _ (by rw[jA,jB hi];exact jL _);have fy:=fV l (if o.other l then 1 else 0) hs;have dB:=eF fy hle (yg (mq l _ hf));have hJ:=H.mono _ _ _ fy (hU.ok _ hb) hle (H.term l s o hl ak hs Dd h);obtain⟨bX,h1,h2⟩:=Jj bU hS hq U hU hfull gv H room f (q.blocks.getD (l.next.getD (if o.other l then 1 else 0) 0) []) _ o (hS.whole _ hb) (fun m hm=>⟨hq.lines _ (dn hm) m hm,hS.has _ m hm,hS.fits _ m hm⟩) (hU.ok _ hb) ((hfull _ hb).resolve_left dB) (gv _ hb dB) (fun x hx=>hU.step _ hb dB x hx) hJ;refine⟨bX,?_,h2⟩;rw[df,ja (by omega),ja (by omega),jb ak,jb rfl];exact h1
  ·have lg:=Co hl kK;have Cc:=fU q l hs;have YW:=tS q (TE bU hl) hf;have Kc:∀x∈fT q ls (aq q l s),jv x.2 (U x.1):=fun x hx=>hout x (by rw[fT,lg];simpa [mJ,SN]using hx)
   have ih:=fun o' (hJ:J (aq q l s) o')=>Jj bU hS hq U hU hfull gv H room f ls (aq q l s) o' QT (fun m hm=>pK m (jN _ hm)) Cc YW Is Kc hJ
   rcases pX hl with A9|ak|ak|ak|ak|ak|ak
   ·obtain⟨hn,hJ⟩:=H.cz l s o hl A9 hs Dd h;obtain⟨bX,h1,h2⟩:=ih _ hJ;refine⟨bX,?_,h2⟩;have OS:=A9;unfold ik at OS;rw[df,ja (by omega),ja (by omega),ja (by omega),ja (by omega),jb hn];exact h1
   ·by_cases hz:o.num (ag l 2)=0
    ·refine⟨_,?_,s,o,h,.inr (.inl rfl)⟩;rw[df,jb ak,jb hz]
    ·obtain⟨bX,h1,h2⟩:=ih _ (H.Wc l s o hl ak hs Dd h);refine⟨bX,?_,h2⟩;rw[df,jb ak,ja hz];exact h1
   ·by_cases hr:(o.drop [ag l 0]).yd.live≥room
    ·refine⟨_,?_,s,o,h,.inr (.inr (.inl ⟨l,hl,ak,hr,rfl⟩))⟩;rw[df,ja (by omega),jb ak,jb hr]
    ·obtain⟨bX,h1,h2⟩:=ih _ (H.new l s o hl ak hs Dd h);refine⟨bX,?_,h2⟩;rw[df,ja (by omega),jb ak,ja hr];exact h1
   ·omega
   ·omega
   ·omega
   ·omega
theorem kH (f:Nat->Option Nat):∀(m k:Nat),aQ f m k=none->∀c,k<=c->c<k+m->f c=none
 |0,_,_,c,h1,h2=>by omega
 |m+1,k,h,c,h1,h2=>by
  rw[aQ]at h;cases hk:f k with
  |some v=>rw[hk]at h;cases h
  |none=>
   rw[hk,Option.none_or]at h;by_cases e:c=k
   ·rw[e];exact hk
   ·exact kH f m (k+1) h c (by omega) (by omega)
theorem Gq {text:B}{p:RP}{q:QP}{E:List (List Nat)}(hD:oZ text p q E)(hr:az text false=(some q,0,0))(hn:aQ (cC q E) q.blocks.length 0=none){J:List Nat->Own.Own->Prop}(H:Steps q J){aO:List Int}(hJ:J aT (Own.start aO))(room:Int)(f:Nat):
  ∃bX,df q room f (q.blocks.getD 0 []) (Own.start aO)=some bX/\TL q J room bX:=by
 have hS:=oI hr;have hq:=hD.both.Kt;have bU:=hD.both.k8;have hI:=hD.inv.inv;have hU:oe q (fun b=>E.getD b []):=⟨fun b hb=>hD.ok hb,hI.start,fun b hb hz x hx=>hI.step b hb rfl hz x hx⟩;have h0:¬E.getD 0 []=au:=eF ⟨by decide,fun k=>by
  by_cases hk:k<24
  ·have:aT.getD k 0=1:=by show(List.replicate 24 1).getD k 0=1;rw[jA,jO,jb hk];rfl
   rw[this];decide
  ·rw[jA,jG (by show(List.replicate 24 1).length<=k;simp;omega)];decide⟩ hI.start (yg oq)
 have gv:∀b,b<q.blocks.length->¬E.getD b []=au->dA q (q.blocks.getD b []) (E.getD b [])=none:=fun b hb hz=>by
  have:=kH _ _ _ hn b (jQ _) (by omega);rw[cC,ja hz]at this;exact this
 have Ye:ey aT:=⟨by decide,fun k=>by
  by_cases hk:k<24
  ·have:aT.getD k 0=1:=by show(List.replicate 24 1).getD k 0=1;rw[jA,jO,jb hk];rfl
   rw[this];decide
  ·rw[jA,jG (by show(List.replicate 24 1).length<=k;simp;omega)];decide⟩
 exact Jj bU hS hq (fun b=>E.getD b []) hU hD.inv.full gv H room f (q.blocks.getD 0 []) (E.getD 0 []) (Own.start aO) (hS.whole 0 hD.pos) (fun m hm=>⟨hq.lines _ (dn hm) m hm,hS.has _ m hm,hS.fits _ m hm⟩) (hD.ok hD.pos) ((hD.inv.full 0 hD.pos).resolve_left h0) (gv 0 hD.pos h0) (fun x hx=>hU.step 0 hD.pos h0 x hx) (H.mono _ _ _ Ye (hD.ok hD.pos) hI.start hJ)
end RunB
namespace RunB
open Go Sq Aux Go.Proofs.YtmlgajhhnojdjaaGreatDoor.Own RunA RefM PrjS FlwA FlwI FlwJ FlwK FlwM FlwO FlwP FlwQ FlwS FlwV FlwY FlwZ
theorem PA {a b:Nat}(h:mC a b)(h':mC b a):a=b:=by
 unfold mC at h h';rw[<-h',Nat.or_comm,h]
theorem Lr {text:B}{p p':RP}{q:QP}{E E':List (List Nat)}(h:oZ text p q E)(h':oZ text p' q E'):∀b,b<q.blocks.length->E.getD b []=E'.getD b []:=fun b hb=>by
 have c:∀{p:RP} {E:List (List Nat)},oZ text p q E->oe q (fun b=>E.getD b []):=fun hD=>⟨fun b hb=>hD.ok hb,hD.inv.inv.start,fun b hb hz x hx=>hD.inv.inv.step b hb rfl hz x hx⟩
 have h1:=h.inv.inv.least _ (c h') b hb;have h2:=h'.inv.inv.least _ (c h) b hb;exact JZ (h.ok hb).len (h'.ok hb).len fun k hk=>PA (h1 k hk) (h2 k hk)
theorem oS (f g:Nat->Option Nat):∀(m k:Nat),(∀c,k<=c->c<k+m->f c=g c)->aQ f m k=aQ g m k
 |0,_,_=>rfl
 |m+1,k,h=>by rw[aQ,aQ,h k (jC _) (by omega),oS f g m (k+1) fun c h1 h2=>h c (by omega) (by omega)]
theorem Hv {text:B}{p p':RP}{q:QP}{E E':List (List Nat)}(h:oZ text p q E)(h':oZ text p' q E'):aQ (cC q E) q.blocks.length 0=aQ (cC q E') q.blocks.length 0:=
 oS _ _ _ _ fun c _ hc=>by unfold cC;rw[Lr h h' c (by omega)]
theorem CV {text:B}{c k c' k':Int}(h:iJ text c k)(h':iJ text c' k'):c=c'/\k=k':=by
 rcases h with⟨a,b,h0,h1,rfl,rfl⟩|⟨p,q,E,h1,h2,h3,h4⟩<;>rcases h' with⟨a',b',Zt,B6,rfl,rfl⟩|⟨p',q',E',B6,LL,QI,h4'⟩
 ·rw[h1]at B6;simp only[Prod.mk.injEq,true_and]at B6;omega
 ·rw[h1]at B6;cases B6
 ·rw[h1]at B6;cases B6
 ·rw[h2]at LL;simp only[Prod.mk.injEq,Option.some.injEq,and_true]at LL;subst LL;have e:=Hv h3 QI;rcases h4 with⟨n,h5,rfl,rfl⟩|⟨h5,rfl,rfl⟩<;>rcases h4' with⟨n',YI,rfl,rfl⟩|⟨YI,rfl,rfl⟩
  ·rw[h5,YI]at e;cases e;exact⟨rfl,rfl⟩
  ·rw[h5,YI]at e;cases e
  ·rw[h5,YI]at e;cases e
  ·exact⟨rfl,rfl⟩
theorem DU:∀(ps:List (Nat×Nat)) (o:Own.Own),(Own.take ps o).2.yd=o.yd
 |[],_=>rfl
 |p::ps,o=>by rw[Own.take,DU ps];rfl
theorem Fu:∀(l m:List B),Lib.join l [32]<+:Lib.join (l++m) [32]
 |[],m=>by simp[Lib.join,List.intercalate]
 |[a],[]=>by simp
 |[a],b::m=>by
  have:Lib.join ([a]++b::m) [32]=a++([32]++Lib.join (b::m) [32]):=by simp[Lib.join,List.intercalate]
  rw[this,Lib.join_one];exact List.prefix_append _ _
 |a::b::l,m=>by
  have e1:Lib.join (a::b::l) [32]=a++([32]++Lib.join (b::l) [32]):=by simp[Lib.join,List.intercalate,List.intersperse]
  have e2:Lib.join (a::b::l++m) [32]=a++([32]++Lib.join (b::l++m) [32]):=by simp[Lib.join,List.intercalate]
  rw[e1,e2,List.prefix_append_right_inj,List.prefix_append_right_inj];exact Fu (b::l) m
theorem Qt {a b:Yd}(h:a.trace<+:b.trace):a.text<+:b.text:=by
 obtain⟨m,hm⟩:=h;unfold Yd.text;rw[<-hm];exact Fu _ _
def tv:Value:=.agg #[.int .i64 0,.int .i64 0,.string ⟨#[]⟩,.int .i64 0]
def l7 (aO:List Int)(fuel room:Int):Prop:=aO.length<=100/\0<=fuel/\fuel<=1000/\0<=room/\room<=50
structure Good (text:B)(q:QP):Prop where
 read:az text false=(some q,0,0)
 done:∃p E,bY text false=(some p,0,0)/\oZ text p q E/\aQ (cC q E) q.blocks.length 0=none
theorem Good.chk {text:B}{q:QP}(h:Good text q):iJ text 0 0:=by
 obtain⟨p,E,h1,h2,h3⟩:=h.done;exact .inr ⟨p,q,E,h1,h.read,h2,.inr ⟨h3,rfl,rfl⟩⟩
theorem Good.run {text:B}{q:QP}(h:Good text q){J:List Nat->Own.Own->Prop}(H:Steps q J){aO:List Int}(hJ:J aT (Own.start aO))(room:Int)(f:Nat):∃bX,df q room f (q.blocks.getD 0 []) (Own.start aO)=some bX/\TL q J room bX:=by
 obtain⟨p,E,-,h2,h3⟩:=h.done;exact Gq h2 h.read h3 H hJ room f
end RunB
namespace Bal
open Go Sq Aux Go.Proofs.YtmlgajhhnojdjaaGreatDoor.Own RunA RunB PrjS FlwA FlwB FlwC FlwD FlwE FlwF FlwG FlwH FlwS FlwY
def Real (q:QP)(k:Nat):Prop:=∃i,i<q.locals.length/\k∈(QP.ai q (i,0)).map ae
structure gz (q:QP)(hs:List Nat)(o:Own.Own):Prop where
 len:o.boxes.length=24
 y:eZ (hs++o.boxes) o.yd
 real:∀k,¬o.boxes.getD k 0=0->Real q k
section
variable {q:QP} {hs:List Nat} {o:Own.Own}
theorem BQ {l:List Nat}{k v n:Nat}(hk:k<l.length)(_hn:1<=n):(l.set k v).count n+(if l.getD k 0=n then 1 else 0)=l.count n+(if v=n then 1 else 0):=by
 rw[List.count_set hk];have e:l.getD k 0=l[k]:=by rw[jA,jB hk];rfl
 rw[e];simp only[beq_iff_eq];split
 ·rename_i h;have:1<=l.count n:=List.count_pos_iff.2 (h▸jL _);omega
 ·omega
theorem Lp (h:gz q hs o){p:Nat×Nat}(hp:ae p<24):gz q (o.box p::hs) (o.clear p):=by
 refine⟨by simpa [Own.clear]using h.len,h.y.congr fun n hn=> ?_,fun k hk=>h.real k fun e=>hk ?_⟩
 ·show(o.box p::(hs++o.boxes.set (ae p) 0)).count n=_
  have:=BQ (l:=o.boxes) (k:=ae p) (v:=0) (by rw[h.len];exact hp) hn;rw[ja (show¬0=n by omega)]at this;rw[List.count_cons,List.count_append,List.count_append];simp only[Own.box,beq_iff_eq];omega
 ·show(o.boxes.set (ae p) 0).getD k 0=0
  rw[dJ];split
  ·rfl
  ·exact e
theorem qc:∀(ps:List (Nat×Nat)) {hs:List Nat} {o:Own.Own},gz q hs o->(∀p∈ps,ae p<24)->gz q ((Own.take ps o).1++hs) (Own.take ps o).2
 |[],_,_,h,_=>h
 |p::ps,hs,o,h,hp=>by
  rw[Own.take];have:=qc ps (Lp h (hp p (jM ..))) (fun x hx=>hp x (jN _ hx));refine⟨this.len,this.y.congr fun n hn=> ?_,this.real⟩;simp only[List.count_append,List.count_cons,List.cons_append];omega
theorem LC {n:Nat}(h:gz q (n::hs) o):gz q hs (o.cR n):=by
 unfold Own.cR;split
 ·rename_i e;subst e;exact⟨h.len,h.y.congr fun n hn=>by rw[jW,List.count_cons,ja (by simp;omega)];rfl,h.real⟩
 ·rename_i e;exact⟨h.len,eZ.free h.y (by omega),h.real⟩
theorem B2:∀(ns:List Nat) {o:Own.Own},gz q (ns++hs) o->gz q hs (Own.eI ns o)
 |[],_,h=>h
 |n::ns,o,h=>by rw[Own.eI];exact B2 ns (LC h)
theorem sv (ps:List (Nat×Nat))(h:gz q hs o)(hp:∀p∈ps,ae p<24):gz q hs (o.drop ps):=B2 _ (qc ps h hp)
theorem take_zero:∀(ps:List (Nat×Nat)) (o:Own.Own) (k:Nat),k∈ps.map ae\/o.boxes.getD k 0=0->(Own.take ps o).2.boxes.getD k 0=0
 |[],_,_,h=>h.resolve_left (by simp)
 |p::ps,o,k,h=>by
  rw[Own.take];refine take_zero ps (o.clear p) k ?_;by_cases hm:k∈ps.map ae
  ·exact .inl hm
  ·refine .inr ?_;show(o.boxes.set (ae p) 0).getD k 0=0
   rw[dJ];split
   ·rfl
   ·rename_i dB;rcases h with h|h
    ·rw[List.map_cons,jP]at h;rcases h with h|h
     ·have:¬k<o.boxes.length:=fun hk=>dB ⟨h.symm,hk⟩
      rw[jA,jG (by omega)];rfl
     ·exact absurd h hm
    ·exact h
theorem drop_zero (ps:List (Nat×Nat))(o:Own.Own){k:Nat}(h:k∈ps.map ae\/o.boxes.getD k 0=0):(o.drop ps).boxes.getD k 0=0:=by
 rw[(cL ps o).2.2.2];exact take_zero ps o k h
theorem Ge {p:Nat×Nat}{n:Nat}(h:gz q (n::hs) o)(hp:ae p<24)(hz:o.boxes.getD (ae p) 0=0)(hr:Real q (ae p)):gz q hs (o.z8 p n):=by
 refine⟨by simpa [Own.z8]using h.len,h.y.congr fun m hm=> ?_,fun k hk=> ?_⟩
 ·show(hs++o.boxes.set (ae p) n).count m=(n::hs++o.boxes).count m
  have:=BQ (l:=o.boxes) (k:=ae p) (v:=n) (by rw[h.len];exact hp) hm;rw[hz,ja (show¬0=m by omega)]at this;rw[jW,List.count_cons,List.count_append,List.count_append];simp only[beq_iff_eq];omega
 ·by_cases e:ae p=k
  ·exact e▸hr
  ·refine h.real k fun e2=>hk ?_
   show(o.boxes.set (ae p) n).getD k 0=0
   rw[dJ,ja (fun x=>e x.1)];exact e2
theorem Gh:∀(ps:List (Nat×Nat)) (ns:List Nat) {o:Own.Own},ps.length=ns.length->(ps.map ae).Nodup->(∀p∈ps,ae p<24/\o.boxes.getD (ae p) 0=0/\Real q (ae p))->gz q (ns++hs) o->gz q hs (Own.mN ps ns o)
 |[],[],_,_,_,_,h=>h
 |[],_::_,_,hl,_,_,_=>by cases hl
 |_::_,[],_,hl,_,_,_=>by cases hl
 |p::ps,n::ns,o,hl,hd,hp,h=>by
  rw[Own.mN];obtain⟨h1,h2,h3⟩:=hp p (jM ..);rw[List.map_cons,List.nodup_cons]at hd;refine Gh ps ns (o:=o.z8 p n) (by simpa using hl) hd.2 (fun x hx=> ?_) (Ge h h1 h2 h3);obtain⟨g1,g2,g3⟩:=hp x (jN _ hx);refine⟨g1,?_,g3⟩;show(o.boxes.set (ae p) n).getD (ae x) 0=0
  rw[dJ,ja (fun e=>hd.1 (List.mem_map.2 ⟨x,hx,e.1.symm⟩))];exact g2
theorem FO (ts frm:List (Nat×Nat))(h:gz q [] o)(hl:ts.length=frm.length)(hd:(ts.map ae).Nodup)(hf:∀p∈frm,ae p<24)(ht:∀p∈ts,ae p<24/\Real q (ae p)):gz q [] (o.move ts frm):=by
 unfold Own.move;refine Gh ts _ (by rw[Go.Proofs.YtmlgajhhnojdjaaGreatDoor.Own.take_len];exact hl) hd (fun p hp=>⟨(ht p hp).1,drop_zero ts _ (.inl (List.mem_map.2 ⟨p,hp,rfl⟩)),(ht p hp).2⟩) ?_;exact sv ts (qc frm h hf) (fun p hp=>(ht p hp).1)
theorem So {p:Nat×Nat}(h:gz q [] o)(hp:ae p<24)(hr:Real q (ae p))(v:Int):gz q [] ((o.drop [p]).new p v):=by
 have h1:=sv [p] h (fun x hx=>by rw[jI.1 hx];exact hp);have hz:=drop_zero [p] o (k:=ae p) (.inl (by simp));have h2:gz q [(o.drop [p]).yd.made.length+1] {o.drop [p]with yd:=(o.drop [p]).yd.build v}:=⟨h1.len,eZ.build h1.y v,h1.real⟩;exact Ge h2 hp hz hr
theorem Nn (q:QP)(aO:List Int):gz q [] (Own.start aO):=by
 have hz:∀k,(Own.start aO).boxes.getD k 0=0:=fun k=>by
  show(List.replicate 24 0).getD k 0=0
  rw[jA,jO];split<;>rfl
 refine⟨by simp[Own.start],⟨fun _=>rfl,fun n hn=> ?_,rfl,fun b hb=>by cases hb⟩,fun k hk=>absurd (hz k) hk⟩;show(List.replicate 24 0).count n=0
 rw[List.count_eq_zero];intro hm;have:=List.eq_of_mem_replicate hm;omega
theorem cx {x:Nat×Nat}(hx:x.1<12):ae x<24:=by unfold ae;split<;>omega
theorem DH {x:Nat×Nat}{c:UInt8}(hx:x.1<q.locals.length)(h3:x.2<=3)(hk:q.aB x c=true):∀p∈QP.ai q x,Real q (ae p):=fun p hp=>by
 refine⟨x.1,hx,?_⟩;obtain⟨i,t⟩:=x;unfold QP.aB QP.kind at hk;simp only at hx h3 hk⊢;have ht:t=0\/t=1\/t=2\/t=3:=by omega
 rcases ht with rfl|rfl|rfl|rfl
 ·exact List.mem_map.2 ⟨p,hp,rfl⟩
 ·have h2:q.bN i=2:=by
   by_cases e:q.bN i=2
   ·exact e
   ·simp[e]at hk
  rcases bo q (i,1)with⟨e,-⟩|⟨-,e,-⟩
  ·rw[e,jI]at hp;subst hp;unfold QP.ai;rw[jb ⟨rfl,h2⟩];simp
  ·cases e
 ·have h2:q.bN i=2:=by
   by_cases e:q.bN i=2
   ·exact e
   ·simp[e]at hk
  rcases bo q (i,2)with⟨e,-⟩|⟨-,e,-⟩
  ·rw[e,jI]at hp;subst hp;unfold QP.ai;rw[jb ⟨rfl,h2⟩];simp
  ·cases e
 ·have h2:q.bN i=3:=by
   by_cases e:q.bN i=3
   ·exact e
   ·simp[e]at hk
  rcases bo q (i,3)with⟨e,-⟩|⟨-,e,-⟩
  ·rw[e,jI]at hp;subst hp;unfold QP.ai;rw[ja (by simp;omega)];simp[ae]
  ·cases e
variable {l:ab}
theorem cP (bR:q.locals.length<=12){x:Nat×Nat}(hx:x.1<q.locals.length):∀p∈QP.ai q x,ae p<24:=fun p hp=>by
 rcases bo q x with⟨e,-⟩|⟨e,-⟩<;>rw[e]at hp<;>simp at hp
 ·rw[hp];exact cx (by omega)
 ·rcases hp with rfl|rfl<;>exact cx (by simp;omega)
theorem dZ (q:QP)(x:Nat×Nat):((QP.ai q x).map ae).Nodup:=by
 rcases bo q x with⟨e,-⟩|⟨e,-⟩<;>rw[e]
 ·simp
 ·simp[ae]
theorem ye {p:Nat×Nat}(h:1<=o.box p):o.box p∈[]++o.boxes:=by
 unfold Own.box at*;rw[List.nil_append];rcases Nat.lt_or_ge (ae p) o.boxes.length with h1|h1
 ·rw[jA,jB h1];exact jL _
 ·rw[jA,jG h1]at h;exact absurd h (by decide)
theorem PI (bR:q.locals.length<=12)(hl:eU q l)(A9:ik l.op)(hn:o.rO l=true)(h:gz q [] o):gz q [] (o.cz q l):=by
 have hints:∀v,gz q [] {o with ints:=v}:=fun v=>⟨h.len,h.y,h.real⟩
 rcases A9 with e|e|e|e|e|e|e|e|e|e|e|e
 ·rw[Own.cz,jb e];exact⟨h.len,h.y,h.real⟩
 ·rw[Own.cz,ja (by omega),jb (by omega)];exact⟨h.len,h.y,h.real⟩
 ·rw[Own.cz,ja (by omega),jb (by omega)];exact⟨h.len,h.y,h.real⟩
 ·rw[Own.cz,ja (by omega),jb (by omega)];exact⟨h.len,h.y,h.real⟩
 ·rw[Own.cz,ja (by omega),ja (by omega),jb (by omega)];exact⟨h.len,h.y,h.real⟩
 ·rw[Own.cz,ja (by omega),ja (by omega),ja (by omega),jb (by omega)];exact⟨h.len,h.y.out _,h.real⟩
 ·rw[Own.rO,jb e]at hn;rw[Own.cz,ja (by omega),ja (by omega),ja (by omega),ja (by omega),jb (by omega)];exact⟨h.len,h.y.load (of_decide_eq_true hn) (ye (of_decide_eq_true hn)),h.real⟩
 ·rw[Own.rO,ja (by omega),jb e]at hn;rw[Own.cz,ja (by omega),ja (by omega),ja (by omega),ja (by omega),ja (by omega),jb (by omega)];exact⟨h.len,h.y.store (of_decide_eq_true hn) (ye (of_decide_eq_true hn)) _,h.real⟩
 ·have hlen:l.places.length=2:=by rw[hl.ok.bt,e];rfl
  have p0:=ba hl (j:=0) (by omega);have p1:=ba hl (j:=1) (by omega);rw[Own.cz,ja (by omega),ja (by omega),ja (by omega),ja (by omega),ja (by omega),ja (by omega),jb (by omega)];exact FO _ _ h (p6 hl e) (dZ q _) (cP bR p1.1) (fun p hp=>⟨cP bR p0.1 p hp,DH p0.1 p0.2 (bj hl.fits (j:=0) (by omega)) p hp⟩)
 ·have hlen:l.places.length=1:=by rw[hl.ok.bt,e];rfl
  rw[Own.cz,ja (by omega),ja (by omega),ja (by omega),ja (by omega),ja (by omega),ja (by omega),ja (by omega),jb (by omega)];exact sv _ h (cP bR (ba hl (j:=0) (by omega)).1)
 ·have hlen:l.places.length=2:=by rw[hl.ok.bt,e];rfl
  have p0:=ba hl (j:=0) (by omega);have p1:=ba hl (j:=1) (by omega);obtain⟨e0,e1,-⟩:=p8 hl e;rw[Own.cz,ja (by omega),ja (by omega),ja (by omega),ja (by omega),ja (by omega),ja (by omega),jb (by omega)];exact FO _ _ h (by rw[e0,e1];rfl) (dZ q _) (cP bR p1.1) (fun p hp=>⟨cP bR p0.1 p hp,DH p0.1 p0.2 (bj hl.fits (j:=0) (by omega)) p hp⟩)
 ·have hlen:l.places.length=1:=by rw[hl.ok.bt,e];rfl
  rw[Own.cz,ja (by omega),ja (by omega),ja (by omega),ja (by omega),ja (by omega),ja (by omega),ja (by omega),jb (by omega)];exact sv _ h (cP bR (ba hl (j:=0) (by omega)).1)
theorem EI (hl:eU q l)(ak:l.op=9):(ag l 0).1<q.locals.length/\∃c,(ag l 0).2<=3/\q.aB (ag l 0) c=true/\QP.ai q (ag l 0)=[ag l 0]:=by
 have hlen:l.places.length=2:=by rw[hl.ok.bt,ak];rfl
 have p0:=ba hl (j:=0) (by omega);have k0:=bj hl.fits (j:=0) (by omega);refine⟨p0.1,_,p0.2,k0,?_⟩;rw[ak]at k0;have o0:=ei (x:=ag l 0) k0;rcases bo q (ag l 0)with⟨e,-⟩|⟨-,e1,e2⟩
 ·exact e
 ·exact absurd ⟨e1,e2⟩ o0.2.1
theorem BG (bR:q.locals.length<=12):RunB.Steps q (fun s o=>gG q s o/\gz q [] o) where
 cz:=fun l s o hl A9 hs hf h=>by
  obtain⟨h1,h2⟩:=(ko bR).cz l s o hl A9 hs hf h.1;exact⟨h1,h2,PI bR hl A9 h1 h.2⟩
 Wc:=fun l s o hl ak hs hf h=>⟨(ko bR).Wc l s o hl ak hs hf h.1,h.2.len,h.2.y,h.2.real⟩
 new:=fun l s o hl ak hs hf h=>by
  obtain⟨h1,c,h2,h3,h4⟩:=EI hl ak;refine⟨(ko bR).new l s o hl ak hs hf h.1,So h.2 (cx (by omega)) ?_ _⟩;exact DH h1 h2 h3 _ (by rw[h4];simp)
 term:=fun l s o hl ak hs hf h=>⟨(ko bR).term l s o hl ak hs hf h.1,h.2⟩
 mono:=fun s t o hs ht hle h=>⟨(ko bR).mono s t o hs ht hle h.1,h.2⟩
end
end Bal
namespace Ex
open Go Go.RowKit Sq Aux PrjJ PrjK PrjL PrjM FlwA FlwE Go.Proofs.YtmlgajhhnojdjaaGreatDoor.Own
structure Br where
 yd:Yd
 aO:List Int
 cs:List (Bool×Int)
 flags:List Bool
def CT (x:Bool×Int):List Value:=[.bool x.1,.int .i64 x.2]
def dh (l:List (Bool×Int)):List Value:=l.flatMap CT
def kI (l:List Bool):List Value:=l.map Value.bool
def dV (a:Nat)(vi:Value)(b:Br):List Value:=.pointer (some ⟨a,0,none⟩)::vi::(dh b.cs++kI b.flags)
def bA (q:QP)(p:Nat×Nat):Bool:=q.aJ p==3
def cellOf (q:QP)(p:Nat×Nat):Nat:=if bA q p then 24+p.1 else ae p
def Br.cell (b:Br)(q:QP)(p:Nat×Nat):Bool×Int:=b.cs.getD (cellOf q p) (false,0)
def Br.val (b:Br)(q:QP)(p:Nat×Nat):Int:=(b.cell q p).2
def Br.write (b:Br)(q:QP)(p:Nat×Nat)(v:Int):Br:={b with cs:=b.cs.set (cellOf q p) (true,v)}
structure dM (w0:World)(x a:Nat)(w:World)(b:Br)(vi vm vt:Value):Prop where
 eG:lk w0.heap.size x 136 (dV a vi b) w b.yd vm vt
 aZ:Below w0.heap.size w0 w
 cs:b.cs.length=36
 flags:b.flags.length=50
 feed:cy w0 vi b.aO
theorem Oc (x:Bool×Int):(CT x).length=2:=rfl
theorem tu (l:List (Bool×Int)):(dh l).length=2*l.length:=by
 induction l with
 |nil=>rfl
 |cons x l ih=>rw[dh,List.flatMap_cons,jV,jY];rw[dh]at ih;rw[ih,Oc];omega
theorem GO:∀(l:List (Bool×Int)) (j:Nat),j<l.length->(dh l)[j*2]?=some (.bool (l.getD j (false,0)).1)/\(dh l)[j*2+1]?=some (.int .i64 (l.getD j (false,0)).2)
 |[],_,h=>by simp at h
 |x::l,0,_=>⟨rfl,rfl⟩
 |x::l,j+1,h=>by
  have ih:=GO l j (by simpa using h);have e:dh (x::l)=.bool x.1:: .int .i64 x.2::dh l:=rfl;rw[e,show(j+1)*2=j*2+1+1 by omega,show j*2+1+1+1=(j*2+1)+1+1 by omega];simp only[List.getElem?_cons_succ,List.getD_cons_succ];exact ih
theorem GP:∀(l:List (Bool×Int)) (j:Nat) (x:Bool×Int),((dh l).set (j*2) (.bool x.1)).set (j*2+1) (.int .i64 x.2)=dh (l.set j x)
 |[],j,x=>rfl
 |y::l,0,x=>rfl
 |y::l,j+1,x=>by
  have ih:=GP l j x;have e:∀z l,dh (z::l)=.bool z.1:: .int .i64 z.2::dh l:=fun _ _=>rfl
  rw[e,List.set_cons_succ,e,show(j+1)*2=j*2+1+1 by omega,show j*2+1+1+1=(j*2+1)+1+1 by omega];simp only[List.set_cons_succ];rw[ih]
theorem qm {q:QP}{p:Nat×Nat}(hp:p.1<12):cellOf q p<36:=by
 unfold cellOf ae;split
 ·omega
 ·split<;>omega
section
variable {x a:Nat} {w w0 w1:World} {vm vt vi vm1 vt1:Value} {b:Br}
theorem dM.lt (h:dM w0 x a w b vi vm vt):x<w.heap.size:=h.eG.lt
theorem dM.below (h:dM w0 x a w b vi vm vt)(hb:Below w.heap.size w w1):dM w0 x a w1 b vi vm vt:=
 ⟨h.eG.below hb,h.aZ.trans (hb.mono h.aZ.size),h.cs,h.flags,h.feed⟩
theorem Nc (a:Nat)(vi:Value){b:Br}{j:Nat}(hj:j<b.cs.length):(dV a vi b)[2+j*2]?=some (.bool (b.cs.getD j (false,0)).1)/\(dV a vi b)[2+j*2+1]?=some (.int .i64 (b.cs.getD j (false,0)).2):=by
 have h:=GO b.cs j hj;have hl:=tu b.cs;have e:∀k,(dV a vi b)[2+k]?=(dh b.cs++kI b.flags)[k]?:=fun k=>by rw[Nat.add_comm];rfl
 refine⟨?_,?_⟩
 ·rw[e,jg (by omega)];exact h.1
 ·rw[Nat.add_assoc,e,jg (by omega)];exact h.2
theorem DI (a:Nat)(vi:Value)(b:Br){j:Nat}(hj:j<b.cs.length)(v:Bool×Int):((dV a vi b).set (2+j*2) (.bool v.1)).set (2+j*2+1) (.int .i64 v.2)=dV a vi {b with cs:=b.cs.set j v}:=by
 have hl:=tu b.cs;have e:∀(r:List Value) k u,(Value.pointer (some ⟨a,0,none⟩)::vi::r).set (2+k) u=.pointer (some ⟨a,0,none⟩)::vi::r.set k u:=fun r k u=>by rw[Nat.add_comm];rfl
 unfold dV;rw[e,Nat.add_assoc,e,List.set_append_left _ _ (by omega),List.set_append_left _ _ (by rw[List.length_set];omega),GP]
theorem Nd (a:Nat)(vi:Value){b:Br}(hc:b.cs.length=36){j:Nat}(hj:j<b.flags.length):(dV a vi b)[74+j]?=some (.bool (b.flags.getD j false)):=by
 have hl:=tu b.cs;have e:(dV a vi b)[74+j]?=(dh b.cs++kI b.flags)[72+j]?:=by rw[show 74+j=(72+j)+2 by omega];rfl
 rw[e,jf (by omega),show 72+j-(dh b.cs).length=j by omega,kI,jJ,jB hj,jA,jB hj];rfl
theorem DJ (a:Nat)(vi:Value)(b:Br)(hc:b.cs.length=36)(j:Nat)(v:Bool):(dV a vi b).set (74+j) (.bool v)=dV a vi {b with flags:=b.flags.set j v}:=by
 have hl:=tu b.cs;unfold dV;rw[show 74+j=(72+j)+2 by omega];simp only[List.set_cons_succ];rw[List.set_append_right _ _ (by omega),show 72+j-(dh b.cs).length=j by omega];simp[kI,List.map_set]
theorem dM.cellAt (h:dM w0 x a w b vi vm vt){j:Nat}(hj:j<36):w.cell? ⟨x,5+j*2,none⟩=some (.bool (b.cs.getD j (false,0)).1)/\w.cell? ⟨x,5+j*2+1,none⟩=some (.int .i64 (b.cs.getD j (false,0)).2)/\w.frozen? ⟨x,5+j*2,none⟩=false/\w.frozen? ⟨x,5+j*2+1,none⟩=false:=by
 obtain⟨r1,r2⟩:=Nc a vi (b:=b) (j:=j) (by rw[h.cs];exact hj);have h1:=h.eG.more (2+j*2);have h2:=h.eG.more (2+j*2+1);rw[r1,show 3+(2+j*2)=5+j*2 by omega]at h1;rw[r2,show 3+(2+j*2+1)=5+j*2+1 by omega]at h2;exact⟨h1.1,h2.1,h1.2,h2.2⟩
theorem dM.Oq (h:dM w0 x a w b vi vm vt){j:Nat}(hj:j<50):w.cell? ⟨x,77+j,none⟩=some (.bool (b.flags.getD j false))/\w.frozen? ⟨x,77+j,none⟩=false:=by
 have h1:=h.eG.more (74+j);rw[Nd a vi h.cs (by rw[h.flags];exact hj),show 3+(74+j)=77+j by omega]at h1;exact h1
theorem dM.setCell (h:dM w0 x a w b vi vm vt){j:Nat}(hj:j<36)(f:Bool)(v:Int):dM w0 x a ((w.setCell ⟨x,5+j*2,none⟩ (.bool f)).setCell ⟨x,5+j*2+1,none⟩ (.int .i64 v)) {b with cs:=b.cs.set j (f,v)} vi vm vt/\
  aA x vm vt w vm vt ((w.setCell ⟨x,5+j*2,none⟩ (.bool f)).setCell ⟨x,5+j*2+1,none⟩ (.int .i64 v)):=by
 obtain⟨h1,h2⟩:=h.eG.oK (2+j*2) (.bool f);obtain⟨h3,h4⟩:=h1.oK (2+j*2+1) (.int .i64 v);rw[DI a vi b (by rw[h.cs];exact hj) (f,v)]at h3;rw[show 3+(2+j*2)=5+j*2 by omega,show 3+(2+j*2+1)=5+j*2+1 by omega]at h3 h4;rw[show 3+(2+j*2)=5+j*2 by omega]at h2;have h5:=h2.trans h4;exact⟨⟨h3,h.aZ.trans (h5.below h.eG (jC _) h.aZ.size),by simpa using h.cs,h.flags,h.feed⟩,h5⟩
theorem dM.SI (h:dM w0 x a w b vi vm vt)(j:Nat)(v:Bool):dM w0 x a (w.setCell ⟨x,77+j,none⟩ (.bool v)) {b with flags:=b.flags.set j v} vi vm vt/\aA x vm vt w vm vt (w.setCell ⟨x,77+j,none⟩ (.bool v)):=by
 obtain⟨h1,h2⟩:=h.eG.oK (74+j) (.bool v);rw[DJ a vi b h.cs,show 3+(74+j)=77+j by omega]at h1;rw[show 3+(74+j)=77+j by omega]at h2;exact⟨⟨h1,h.aZ.trans (h2.below h.eG (jC _) h.aZ.size),h.cs,by simpa using h.flags,h.feed⟩,h2⟩
theorem dM.qe (h:dM w0 x a w b vi vm vt){y':Yd}(h1:lk w0.heap.size x 136 (dV a vi b) w1 y' vm1 vt1)(h2:aA x vm vt w vm1 vt1 w1):dM w0 x a w1 {b with yd:=y'} vi vm1 vt1:=
 ⟨h1,h.aZ.trans (h2.below h.eG (jC _) h.aZ.size),h.cs,h.flags,h.feed⟩
theorem dM.prog (h:dM w0 x a w b vi vm vt):w.cell? ⟨x,3,none⟩=some (.pointer (some ⟨a,0,none⟩)):=by
 have:=(h.eG.more 0).1;simpa [dV]using this
end
end Ex
end Go.Proofs.YtmlgajhhnojdjaaGreatDoor

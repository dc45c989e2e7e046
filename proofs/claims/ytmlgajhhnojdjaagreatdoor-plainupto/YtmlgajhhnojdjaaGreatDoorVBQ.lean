import Derived.Test.YtmlgajhhnojdjaaGreatDoorVBP
namespace Go.Proofs.YtmlgajhhnojdjaaGreatDoor
namespace El
open Go Sq Aux Go.Proofs.YtmlgajhhnojdjaaGreatDoor.Own RunA MadA PrjS FlwA FlwB FlwD FlwE FlwF FlwG FlwI FlwJ FlwP FlwQ FlwS FlwY
theorem oM (c:UInt8):∀x:B,Lib.join (split c x) [c]=x
 |[]=>by show Lib.join [[]] [c]=[];rw[Lib.join_one]
 |y::r=>by
  have ih:=oM c r;rw[split];cases hs:split c r with
  |nil=>exact absurd hs (eP c r)
  |cons h t=>
   rw[hs]at ih;split
   ·rename_i e;rw[fv,ih,e];rfl
   ·cases t with
    |nil=>
     rw[Lib.join_one]at ih;show Lib.join [[y]++h] [c]=_
     rw[Lib.join_one,ih];rfl
    |cons k t=>
     rw[fv]at ih;show Lib.join (([y]++h)::k::t) [c]=_
     rw[fv,List.append_assoc,ih];rfl
def cS (x:B):Bool:=([108,101,116,32]:B).isPrefixOf x
def cR (x:B):Bool:=x==[98,108,111,99,107]
def qn (x:B):Bool:=([101,110,100,32]:B).isPrefixOf x
def yA (x:B):Bool:=([102,108,97,103,32]:B).isPrefixOf x
def yC (x:B):Bool:=([116,101,115,116,32]:B).isPrefixOf x
theorem me {w x:B}(hw:¬(32:UInt8)∈w)(h:(w++[32]).isPrefixOf x=true):word (split 32 x) 0=w:=by
 obtain⟨r,rfl⟩:=List.isPrefixOf_iff_prefix.1 h;rw[List.append_assoc,show [32]++r=32::r from rfl,fT 32 w r hw];rfl
theorem mh {ws:List B}{s:Nat×List B}(h:bW ws=some s):cz (word ws 0)=some s.1/\s.2=ws.drop 1/\ws.length-1=(ae s.1).length:=by
 obtain⟨h1,h2⟩:=kR h;refine⟨h2,by rw[h1],?_⟩;rw[bW,h2]at h;simp only at h;split at h
 ·rename_i hh;exact hh.1
 ·cases h
theorem Aj {w:B}{n:Nat}(h:cz w=some n):bD n=w:=by
 have h1:=lT _ _ _ _ h;have h2:=ij h;have h3:=h1.2.2;rw[Nat.sub_zero]at h3;rw[<-h3];unfold bD;rw[jA,jA,jJ];cases hs:dh[n]? with
 |none=>rfl
 |some y=>rfl
section
variable {x:B} {s:Nat×List B}
theorem Ol (h:bW (split 32 x)=some s)(hx:cS x=true):s.1=0:=by
 have h1:=(mh h).1;rw[me (w:=eD) (by decide) hx]at h1;have:cz eD=some 0:=by decide
 rw[this]at h1;exact(Option.some.inj h1).symm
theorem Hi (h:bW (split 32 x)=some s)(hx:qn x=true):s.1=22:=by
 have h1:=(mh h).1;rw[me (w:=[101,110,100]) (by decide) hx]at h1;have:cz [101,110,100]=some 22:=by decide
 rw[this]at h1;exact(Option.some.inj h1).symm
theorem G9 (h:bW (split 32 x)=some s)(hx:cR x=true):s.1=1:=by
 have e:x=[98,108,111,99,107]:=by simpa [cR]using hx
 subst e;have h1:=(mh h).1;have:cz (word (split 32 [98,108,111,99,107]) 0)=some 1:=by decide
 rw[this]at h1;exact(Option.some.inj h1).symm
theorem Ng (h:bW (split 32 x)=some s)(h1:s.1=1):cR x=true:=by
 obtain⟨k1,-,k3⟩:=mh h;rw[h1]at k1 k3;have k4:=Aj k1;have hj:=oM 32 x;cases hs:split 32 x with
 |nil=>exact absurd hs (eP 32 x)
 |cons a t=>
  rw[hs]at k3 k4 hj;have ht:t=[]:=by
   have:t.length=0:=k3;exact List.eq_nil_of_length_eq_zero this
  subst ht;rw[Lib.join_one]at hj;have k5:bD 1=a:=k4;rw[<-hj,<-k5];decide
theorem Oi (h:bW (split 32 x)=some s)(h0:s.1=0):cS x=true/\x=lY (word s.2 0,(c7 (word s.2 1)).getD 0):=by
 obtain⟨k1,k2,k3⟩:=mh h;have hf:=q7 h;rw[h0]at k1 k3 hf;have k4:=Aj k1;have hj:=oM 32 x;rw[k2]at hf⊢;cases hs:split 32 x with
 |nil=>exact absurd hs (eP 32 x)
 |cons a t=>
  rw[hs]at k3 k4 hj hf;have ht:t.length=2:=k3
  match t,ht with
  |[b,c],_=>
   have k5:eD=a:=k4;have SJ:(ey b 100&&(ey c 116&&true))=true:=hf;rw[jH,Bool.and_true]at SJ;have hc:(c7 c).isSome=true:=SJ.2;obtain⟨n,hn⟩:=Option.isSome_iff_exists.1 hc;have hg:=(lT _ _ _ _ hn).2.2;rw[Nat.sub_zero]at hg;have e:lY (word ((a::[b,c]).drop 1) 0,(c7 (word ((a::[b,c]).drop 1) 1)).getD 0)=x:=by
    show Lib.join [eD,b,bZ.getD ((c7 c).getD 0) []] [32]=x
    rw[hn];show Lib.join [eD,b,bZ.getD n []] [32]=x
    rw[hg,k5];exact hj
   refine⟨?_,e.symm⟩;rw[<-hj,<-k5];show([108,101,116,32]:B).isPrefixOf (Lib.join [eD,b,c] [32])=true
   rw[fv];exact List.isPrefixOf_iff_prefix.2 ⟨Lib.join [b,c] [32],rfl⟩
end
structure PG (X:List B)(o:di)(q0 q:QP):Prop where
 pf:q.locals.length=q0.locals.length+X.countP cS
 pre:∃r,q.locals=q0.locals++r
 same:∀i,i<X.countP cS->X.getD i []=lY (q.locals.getD (q0.locals.length+i) ([],0))
 none:¬o.sec=0->X.countP cS=0
 aD:q.blocks.length=q0.blocks.length+X.countP cR
 last:∀h:X≠[],qn (X.getLast h)=true->∃l,q.blocks.flatten.getLast?=some l/\l.op=22
theorem Bb (nb:Nat):∀(X:List B) (o:di) (i j:Nat) (q0 q:QP),(ar false (X.map (split 32)) o i).2.2=none->aJ nb (ar false (X.map (split 32)) o i).1 j q0=(q,none)->(o.sec=1->¬q0.blocks=[])->PG X o q0 q
 |[],o,i,j,q0,q,_,h,_=>by
  simp only[List.map_nil,ar,aJ,Prod.mk.injEq,and_true]at h;subst h;exact⟨rfl,⟨[],by simp⟩,fun i hi=>(by cases hi),fun _=>rfl,rfl,fun h=>absurd rfl h⟩
 |x::X,o,i,j,q0,q,hn,h,c8=>by
  rw[List.map_cons,ar]at hn h;cases hx:bW (split 32 x)with
  |none=>rw[hx]at hn;cases hn
  |some s=>
   rw[hx]at hn h;simp only at hn h;by_cases ha:(aq false o s.1).2=true
   ·rw[jb ha]at hn h;have ih:=fun q1 hl aB=>Bb nb X (aq false o s.1).1 (i+1) (j+1) q1 q hn hl aB
    have EV:=oq ha;rw[aJ]at h;have Ad:¬fK false s.1=false:=by rw[EV];decide
    have gj:∀{q1:QP},PG X (aq false o s.1).1 q1 q->(¬s.1=22\/¬X=[])->∀h:x::X≠[],qn ((x::X).getLast h)=true->∃l,q.blocks.flatten.getLast?=some l/\l.op=22:=fun hp V8 h' he=>by
     by_cases hX:X=[]
     ·subst hX;exact absurd (Hi hx he) (V8.resolve_right (fun f=>f rfl))
     ·rw[List.getLast_cons hX]at he;exact hp.last hX he
    by_cases e0:s.1=0
    ·rw[jb e0]at h;split at h
     ·simp at h
     ·have e:aq false o s.1=(⟨o.sec,o.locals+1,o.blocks⟩,o.sec==0&&decide (o.locals+1<=12)):=by rw[aq,ja Ad,jb e0]
      have hp:=ih _ h (by rw[e];exact c8);rw[e]at ha;simp only[Bool.and_eq_true,beq_iff_eq,decide_eq_true_eq]at ha;obtain⟨i1,i2⟩:=Oi hx e0;have i3:cR x=false:=by
       cases hb:cR x with
       |false=>rfl
       |true=>have:=G9 hx hb;omega
      have hc:(x::X).countP cS=X.countP cS+1:=List.countP_cons_of_pos i1;have hb:(x::X).countP cR=X.countP cR:=List.countP_cons_of_neg (by rw[i3];decide);have hlen:(q0.addLocal (word s.2 0,(c7 (word s.2 1)).getD 0)).locals.length=q0.locals.length+1:=by simp[QP.addLocal]
      obtain⟨r,hr⟩:=hp.pre;have SU:q.locals=q0.locals++((word s.2 0,(c7 (word s.2 1)).getD 0)::r):=by rw[hr];simp[QP.addLocal]
      refine⟨by rw[hp.pf,hlen,hc];omega,⟨_,SU⟩,fun k hk=> ?_,fun f=>absurd ha.1 f,by rw[hp.aD,hb];rfl,gj hp (.inl (by omega))⟩;cases k with
      |zero=>
       show x=_
       rw[SU,jA,jf (by omega)];simpa using i2
      |succ k=>
       have:=hp.same k (by omega);rw[hlen]at this;rw[show q0.locals.length+(k+1)=q0.locals.length+1+k by omega];exact this
    ·rw[ja e0]at h;have i1:cS x=false:=by
      cases hb:cS x with
      |false=>rfl
      |true=>have:=Ol hx hb;omega
     have hc:(x::X).countP cS=X.countP cS:=List.countP_cons_of_neg (by rw[i1];decide);by_cases e1:s.1=1
     ·rw[jb e1]at h;have e:(aq false o s.1).1=⟨1,o.locals,o.blocks+1⟩:=by rw[aq,ja Ad,ja e0,jb e1]
      have hp:=ih _ h (fun _=>by show¬q0.blocks++[[]]=[];simp);have h0:=hp.none (by rw[e];show¬1=0;decide);have hb:(x::X).countP cR=X.countP cR+1:=List.countP_cons_of_pos (Ng hx e1);refine⟨by rw[hp.pf,hc];rfl,hp.pre,fun k hk=>(by rw[hc,h0]at hk;cases hk),fun _=>by rw[hc,h0],?_,gj hp (.inl (by omega))⟩;rw[hp.aD,hb];show(q0.blocks++[[]]).length+_=_;simp;omega
     ·rw[ja e1]at h;have i3:cR x=false:=by
       cases hb:cR x with
       |false=>rfl
       |true=>have:=G9 hx hb;omega
      have hb:(x::X).countP cR=X.countP cR:=List.countP_cons_of_neg (by rw[i3];decide);cases hl:cU q0.locals nb s with
      |none=>rw[hl]at h;simp at h
      |some l=>
       rw[hl]at h;have aH:=tm hl;by_cases h1:o.sec=1
       ·obtain⟨bs',b,mO,rD⟩:=si (c8 h1) {l with num:=j};have hp:=ih _ h (fun _=>by rw[rD];simp);have lo:¬(aq false o s.1).1.sec=0:=by
         by_cases iN:18<=s.1
         ·have e:(aq false o s.1).1=⟨2,o.locals,o.blocks⟩:=by rw[aq,ja Ad,ja e0,ja e1,ja (by simp[h1]),jb iN]
          rw[e];show¬2=0;decide
         ·have e:(aq false o s.1).1=o:=by rw[aq,ja Ad,ja e0,ja e1,ja (by simp[h1]),ja iN]
          rw[e];omega
        have h0:=hp.none lo;refine⟨by rw[hp.pf,hc];rfl,hp.pre,fun k hk=>(by rw[hc,h0]at hk;cases hk),fun _=>by rw[hc,h0],by rw[hp.aD,hb,rD,mO];simp,?_⟩;by_cases hX:X=[]
        ·subst hX;intro h' he;have B9:=Hi hx he;simp only[List.map_nil,ar,aJ,Prod.mk.injEq,and_true]at h;subst h;refine⟨{l with num:=j},?_,by show l.op=22;omega⟩;rw[rD,List.flatten_append,List.flatten_cons,List.flatten_nil,List.append_nil,<-List.append_assoc,List.getLast?_concat]
        ·exact gj hp (.inr hX)
       ·exfalso;rw[aq,ja Ad,ja e0,ja e1,jb h1]at ha;cases ha
   ·rw[ja ha]at hn;cases hn
theorem C1 {text:B}{q:QP}(h:ax text false=(some q,0,0)):PG (split 10 text) ⟨0,0,0⟩ QP.empty q:=by
 by_cases hlong:(split 10 text).length>(if false=true then 4000 else 120)
 ·rw[ax,jb hlong]at h;cases h
 ·rw[ax,ja hlong]at h;split at h
  ·cases h
  ·rename_i qm;split at h
   ·cases h
   ·rename_i lo;split at h
    ·cases h
    ·rename_i ld;split at h
     ·cases h
     ·simp only[Prod.mk.injEq,Option.some.injEq,and_true]at h;exact Bb (countB (ar false (ba text) ⟨0,0,0⟩ 0).1) (split 10 text) ⟨0,0,0⟩ 0 0 QP.empty q qm (by rw[<-h];exact Prod.ext rfl ld) (fun h=>by cases h)
def mM (s:List Nat):Prop:=s.length=24/\∀k,k<24->JH (s.getD k 0)
theorem xO (q:QP):∀(ls:List ab) (s:List Nat),(∀l∈ls,l.next=[])->eN q ls s=[]
 |[],_,_=>rfl
 |l::ls,s,h=>by
  rw[eN,h l (jM ..),xO q ls _ (fun x hx=>h x (jN _ hx))];rfl
theorem FQ {text:B}{p:RP}{q:QP}{E:List (List Nat)}(hD:kq text p q E)(h1:q.blocks.length=1)(hn:∀l∈q.blocks.getD 0 [],l.next=[]):E.getD 0 []=aA:=by
 have hc:mq q (fun _=>aA):=⟨fun _ _=>Jm,pD _,fun b hb _ x hx=>by
  obtain rfl:b=0:=by omega
  rw[xO q _ _ hn]at hx;cases hx⟩
 have hle:=hD.inv.inv.least _ hc 0 hD.pos;have NS:=hD.inv.inv.start;have oF:=hD.ok hD.pos;refine List.ext_getElem (by rw[oF.len];rfl) fun k h2 h3=> ?_
 have hk:k<24:=by rw[oF.len]at h2;exact h2
 have g1:=hle k hk;have g2:=NS k hk;rw[pV hk]at g1 g2;unfold p8 at g1 g2;have e:(E.getD 0 []).getD k 0=1:=by rw[<-g2,Nat.or_comm];exact g1
 have e2:=pV hk;rw[jA,jB h2]at e;rw[jA,jB h3]at e2;exact(show(E.getD 0 [])[k]=1 from e).trans (show aA[k]=1 from e2).symm
theorem zr {s:List Nat}(h:mM s)(i:Nat){v:Nat}(hv:JH v):mM (s.set i v):=⟨by rw[List.length_set];exact h.1,Kd h.2 i hv⟩
theorem pd {m:Nat}(hm:JH m):∀(ps:List (Nat×Nat)) {s:List Nat},mM s->mM (eO m ps s)
 |[],_,h=>h
 |x::ps,_,h=>pd hm ps (zr h (ah x) hm)
theorem qa:∀(ps:List (Nat×Nat)) {s:List Nat},mM s->mM (dz ps s)
 |[],_,h=>h
 |x::ps,_,h=>qa ps (zr h (ah x) (IG x))
theorem ot (q:QP)(l:ab){s:List Nat}(h:mM s):mM (aR q l s):=by rw[tU];exact qa _ h
theorem xh (q:QP)(l:ab)(h1:ah (l.places.getD 1 (0,0))<24){s:List Nat}(h:mM s):mM (au q l s):=by
 have ht:=ot q l h;unfold au;split
 ·exact pd (by decide) _ ht
 ·split
  ·refine pd ?_ _ ht;unfold da;split
   ·exact h.2 _ h1
   ·decide
  ·split
   ·exact pd (by decide) _ ht
   ·split
    ·exact qa _ ht
    ·exact ht
theorem xi {s:List Nat}(h:mM s)(k:Nat):dW (s.getD k 0)=false:=by
 by_cases hk:k<24
 ·exact Dp (h.2 k hk)
 ·rw[jA,jG (by rw[h.1];omega)];rfl
theorem zq {s:List Nat}(h:mM s):∀(ps:List (Nat×Nat)) (un:List Bool),gF s ps un=un
 |[],_=>rfl
 |x::ps,un=>by
  show gF s ps (if dW (s.getD (ah x) 0)=true then un.set (ah x) true else un)=un
  rw[xi h,ja (by decide)];exact zq h ps un
theorem so (q:QP):∀(ls:List ab) (s:List Nat) (un:List Bool),(∀l∈ls,ah (l.places.getD 1 (0,0))<24)->mM s->lF q ls s un=un
 |[],_,_,_,_=>rfl
 |l::ls,s,un,hl,h=>by
  rw[lF,zq (ot q l h),so q ls _ un (fun x hx=>hl x (jN _ hx)) (xh q l (hl l (jM ..)) h)]
def Na (i:Item):Prop:=∃l,i=.line l/\¬l.op=17/\¬l.op=21
theorem D9 (k:Nat):(List.replicate 24 false).getD k false=false:=by
 rw[jA,jO];split<;>rfl
theorem FI (q:QP){l:ab}(ho:¬l.op=17/\¬l.op=21){s:List Nat}(h:mM s):∀i∈bo q (List.replicate 24 false) s l,Na i:=fun i hi=>by
 unfold bo at hi;rcases List.mem_append.1 hi with hi|hi
 ·obtain⟨x,-,hx⟩:=List.mem_flatMap.1 hi;unfold cd at hx;rw[xi (ot q l h),ja (by decide)]at hx;split at hx
  ·rw[jI.1 hx];exact⟨_,rfl,by show¬16=17;decide,by show¬16=21;decide⟩
  ·cases hx
 ·rcases List.mem_append.1 hi with hi|hi
  ·split at hi
   ·cases hi
   ·rw[jI.1 hi];exact⟨_,rfl,ho⟩
  ·rcases List.mem_append.1 hi with hi|hi
   ·obtain⟨k,-,hx⟩:=List.mem_flatMap.1 hi;rw[D9,dw,jb rfl]at hx;cases hx
   ·split at hi
    ·unfold bw at hi;rw[D9,ja (fun e=>by cases e.1)]at hi;cases hi
    ·cases hi
theorem tA (q:QP):∀(ls:List ab) (s:List Nat),(∀l∈ls,ah (l.places.getD 1 (0,0))<24/\¬l.op=17/\¬l.op=21)->mM s->∀i∈bg q (List.replicate 24 false) ls s,Na i
 |[],_,_,_,i,hi=>by cases hi
 |l::ls,s,hl,h,i,hi=>by
  obtain⟨h1,h2⟩:=hl l (jM ..);rcases List.mem_append.1 hi with hi|hi
  ·exact FI q h2 h i hi
  ·exact tA q ls _ (fun x hx=>hl x (jN _ hx)) (xh q l h1 h) i hi
theorem tB:∀(is:List Item) (m:Mk),(∀i∈is,Na i)->(∀b∈m.blocks,∀l∈b,¬l.op=17/\¬l.op=21)->∀b∈(m.items is).blocks,∀l∈b,¬l.op=17/\¬l.op=21
 |[],_,_,h=>h
 |i::is,m,hi,h=>by
  obtain⟨l,rfl,hl⟩:=hi i (jM ..);refine tB is (m.put [l]) (fun x hx=>hi x (jN _ hx)) fun b hb x hx=> ?_
  rcases List.mem_or_eq_of_mem_set hb with hb|rfl
  ·exact h b hb x hx
  ·rcases List.mem_append.1 hx with hx|hx
   ·exact h _ (eW hx) x hx
   ·rw[jI.1 hx];exact hl
theorem Jl {nl nb:Nat}{l:ab}(h:iB nl nb l)(ho:l.op<18\/l.op=22):l.next=[]:=by
 have key:∀op:Fin 23,(op.val<18\/op.val=22)->((ae op.val).filter (·==98)).length=0:=by decide
 exact List.eq_nil_of_length_eq_zero (h.pI.trans (key ⟨l.op,h.op⟩ ho))
theorem Jb {text:B}{p:RP}{q:QP}{E:List (List Nat)}(hD:kq text p q E)(hrd:ax text false=(some q,0,0))(h1:q.blocks.length=1)(K8:∃l,q.blocks.flatten.getLast?=some l/\l.op=22):∀b∈(lv q E).blocks,∀l∈b,¬l.op=17/\¬l.op=21:=by
 have hq:=M3 hD.both hrd;obtain⟨e,he,B9⟩:=K8;obtain⟨ls,e',hb,iN,dS⟩:=hq.whole 0 (by omega);have mO:q.blocks=[q.blocks.getD 0 []]:=by
  match hq':q.blocks,h1 with
  |[b],_=>rfl
 have e22:e'.op=22:=by
  rw[mO,List.flatten_cons,List.flatten_nil,List.append_nil,hb,List.getLast?_concat]at he;cases he;exact B9
 have gO:=hq.lines 0;have jw:∀l∈q.blocks.getD 0 [],l.next=[]:=fun l hl=>by
  refine Jl (gO l hl).ok ?_;rw[hb]at hl;rcases List.mem_append.1 hl with hl|hl
  ·exact .inl (dS l hl)
  ·rw[jI.1 hl];exact .inr e22
 have iA:=FQ hD h1 jw;have K5:mM aA:=⟨by decide,fun k hk=>by rw[pV hk];decide⟩;have qm:∀l∈q.blocks.getD 0 [],ah (l.places.getD 1 (0,0))<24/\¬l.op=17/\¬l.op=21:=fun l hl=>by
  refine⟨?_,?_⟩
  ·have cV:=hq.CE;cases hp:l.places[1]? with
   |none=>rw[jA,hp];show ah (0,0)<24;decide
   |some x=>
    rw[jA,hp];exact iW cV ((gO l hl).ok.places x (List.mem_of_getElem? hp)).1
  ·have key:∀op:Fin 23,fK false op.val=true->¬op.val=17/\¬op.val=21:=by decide
   exact key ⟨l.op,(gO l hl).ok.op⟩ (gO l hl).has
 have UK:pb q E q.blocks.length=List.replicate 24 false:=by
  rw[h1,pb,pb,iA,so q _ _ _ (fun l hl=>(qm l hl).1) K5]
 show∀b∈(bA q E (pb q E q.blocks.length) q.blocks.length).blocks,_
 rw[UK,h1,bA,iS,iA,ja tR];refine tB _ _ (tA q _ _ qm K5) fun b Hz l hl=> ?_
 have bu:b∈(bA q E (List.replicate 24 false) 0).blocks:=Hz;rw[bA]at bu;rw[List.eq_of_mem_replicate bu]at hl;cases hl
structure Dx (a b:List B):Prop where
 pos:0<a.length
 more:a.countP cS<b.length
 same:∀i,i<a.countP cS->a.getD i []=b.getD i []
 aD:b.getD (a.countP cS) []=[98,108,111,99,107]
 jt:a.countP cR=1->qn (a.getD (a.length-1) [])=true->∀x∈b,yA x=false/\yC x=false
theorem I7 {text:B}{p:RP}{q:QP}{E:List (List Nat)}(hD:kq text p q E)(hrd:ax text false=(some q,0,0)):Dx (split 10 text) (db (lv q E)):=by
 have hP:=C1 hrd;have hT:=tM hD hrd;have SQ:=ix (lv q E);have aB:=hT.b1;have hc:(split 10 text).countP cS=q.locals.length:=by have:=hP.pf;rw[this];show _=0+_;omega
 have hb:(split 10 text).countP cR=q.blocks.length:=by have:=hP.aD;rw[this];show _=0+_;omega
 have UA:0<(split 10 text).length:=List.length_pos_iff.2 (eP 10 text);have vJ:(lv q E).locals=q.locals:=rfl;refine⟨UA,by rw[hc,SQ,vJ];omega,fun i hi=> ?_,?_,fun h1 he x hx=> ?_⟩
 ·have hs:=hP.same i hi;rw[hc]at hi;have h0:QP.empty.locals.length+i=i:=by show 0+i=i;omega
  rw[h0]at hs;rw[hs,db,vJ,jA,jA,jg (by rw[jc];exact hi),jJ,jB hi];rfl
 ·rw[hc,db,vJ,jA,jf (by rw[jc];exact jC _),jc,Nat.sub_self];cases TQ:(lv q E).blocks with
  |nil=>rw[TQ]at aB;simp at aB
  |cons b L=>rw[List.flatMap_cons];rfl
 ·rw[hb]at h1;have c8:=eP 10 text;have gj:(split 10 text).getD ((split 10 text).length-1) []=(split 10 text).getLast c8:=by
   rw[List.getLast_eq_getElem,jA,jB (by omega)];rfl
  rw[gj]at he;have Yl:=Jb hD hrd h1 (hP.last c8 he);have key:∀w:B,¬(32:UInt8)∈w->(w++[32]).isPrefixOf x=true->(cz w=some 17\/cz w=some 21)->False:=fun w hw hp ho=>by
   have h2:=me hw hp;rcases List.mem_append.1 hx with hx|hx
   ·obtain⟨y,hy,rfl⟩:=List.mem_map.1 hx;rw[Fp (hT.names y hy) (hT.types y hy)]at h2;have h3:eD=w:=h2;rw[<-h3]at ho
    revert ho;decide
   ·obtain⟨b,Hz,hx⟩:=List.mem_flatMap.1 hx;rcases jP.1 hx with rfl|hx
    ·have h3:bX=w:=h2;rw[<-h3]at ho
     revert ho;decide
    ·obtain⟨l,hl,rfl⟩:=List.mem_map.1 hx;have hr:=(hT.line Hz hl).told;rw[CK hT.names (by have:=hT.jt;omega) hr]at h2;have h3:bD l.op=w:=h2;have h4:=LU ⟨l.op,hr.ok.op⟩;have h5:=Yl b Hz l hl;simp only at h4;rw[h3]at h4;rw[h4]at ho;simp only[Option.some.injEq]at ho;omega
  refine⟨?_,?_⟩
  ·cases hf:yA x with
   |false=>rfl
   |true=>exact(key [102,108,97,103] (by decide) hf (.inl (by decide))).elim
  ·cases hf:yC x with
   |false=>rfl
   |true=>exact(key [116,101,115,116] (by decide) hf (.inr (by decide))).elim
end El
end Go.Proofs.YtmlgajhhnojdjaaGreatDoor

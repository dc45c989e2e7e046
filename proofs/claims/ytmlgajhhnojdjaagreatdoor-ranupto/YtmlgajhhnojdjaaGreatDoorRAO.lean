import Derived.Test.YtmlgajhhnojdjaaGreatDoorRAI
namespace Go.Proofs.YtmlgajhhnojdjaaGreatDoor
namespace PrjT
open Go Go.RowKit Sq Aux PrjF PrjG PrjH PrjI PrjJ PrjK PrjL PrjM PrjN PrjO PrjP PrjR PrjS
theorem da {z:Nat}{w:World}{ad:Option Addr}{n c:Nat}{ps:List (Nat×Nat)}(h:w.ownsRow z 119 2 (.slice ad n c) ps.length (bK ps))(j:Nat)(hj:j<ps.length):
  ∃g,ad=some ⟨g,0,none⟩/\n=ps.length/\ps.length<=c/\g<w.heap.size/\w.cell? ⟨g,j*2,none⟩=some (.int .i64 ((ps.getD j (0,0)).1:Nat))/\w.cell? ⟨g,j*2+1,none⟩=some (.int .i64 ((ps.getD j (0,0)).2:Nat)):=by
 obtain⟨g,cap,hv,hc,hg,aC⟩:=dJ h (by omega);simp only[Value.slice.injEq]at hv;obtain⟨rfl,rfl,rfl⟩:=hv;have key:∀i,i<2->w.cell? ⟨g,j*2+i,none⟩=(BD (ps.getD j (0,0)))[i]?:=fun i hi=>by
  rw[aC _ (by omega),bK,jm BD 2 (fun _=>rfl) ps j i hi];simp[hj]
 exact⟨g,rfl,rfl,hc,hg,key 0 (by decide),key 1 (by decide)⟩
theorem Gk (q:QP)(f:B)(ps:List (Nat×Nat))(k:Nat)(hk:k<ps.length):q.fJ f (ps.drop k) k=(q.bJ (ps.getD k (0,0)) (f.getD k 0)&&q.fJ f (ps.drop (k+1)) (k+1)):=by
 rw[jE hk,QP.fJ];simp[hk]
theorem OB {q:QP}{x:Nat×Nat}{t:Nat}(h:q.kind x=some t):q.br x=t:=by
 rw[QP.kind]at h;rw[QP.br];by_cases cf:x.2=1\/x.2=2
 ·rw[jb cf]at h;rw[jb (by omega)];split at h<;>simp_all
 ·rw[ja cf]at h;by_cases h3:x.2=3
  ·rw[jb h3]at h;rw[jb (by omega)];split at h<;>simp_all
  ·rw[ja h3]at h;rw[ja (by omega)];simpa using h
theorem Nc {a b:Bool}(h:a=b):Ending.returned (.bool a)=.returned (.bool b):=by rw[h]
theorem filter_le {f:B}:(f.filter sL).length<=f.length:=List.length_filter_le ..
set_option maxRecDepth 20000 in
set_option maxHeartbeats 1000000 in
theorem Q6 (q:QP)(l:aa)(nb z a:Nat)(v u:Value)(ap an:Option Addr)(cp cn:Nat)(w:World)(hp:w.heap[a]?=some (.cells #[v,u] 110 (0,0)))(hv:ma w v q.locals)(ic:q.locals.length<=4000)(hl:tR q.locals.length nb l)
  (hA:bp z w l (.slice ap l.places.length cp) (.slice an l.next.length cn)) (E:Env w):
  Calls Tryz.prog 171 #[.pointer (some ⟨a,0,none⟩),.agg #[.int .i64 (l.num:Nat),.int .i64 (l.op:Nat),.slice ap l.places.length cp,.int .i64 l.number,.int .i64 l.flag,.slice an l.next.length cn]] w fun e w'=>e=.returned (.bool (q.fits l))/\Below w.heap.size w w':=by
 have aX:Below w.heap.size w (w.alloc (.cells #[.int .i64 (l.num:Nat),.int .i64 (l.op:Nat),.slice ap l.places.length cp,.int .i64 l.number,.int .i64 l.flag,.slice an l.next.length cn] 115)):=(Below.refl _ _).alloc (jC _) _;have bU:(w.alloc (.cells #[.int .i64 (l.num:Nat),.int .i64 (l.op:Nat),.slice ap l.places.length cp,.int .i64 l.number,.int .i64 l.flag,.slice an l.next.length cn] 115)).heap[w.heap.size]?=some (.cells #[.int .i64 (l.num:Nat),.int .i64 (l.op:Nat),.slice ap l.places.length cp,.int .i64 l.number,.int .i64 l.flag,.slice an l.next.length cn] 115 (0,0)):=jD;have Cr:=pX (E.on aX) l.op hl.op;have aK:=lt_of_heap hp;have Va:=yt l.op hl.op;have gK:l.places.length<=(ae l.op).length:=by rw[hl.cP];exact filter_le
 have Ew:=hl.places;have hpm:l.op=12->l.places.length=2:=fun e=>by rw[hl.cP,e];rfl
 have HF:Hid (q.fJ (ae l.op) l.places 0=q.fJ (ae l.op) (l.places.drop 0) 0):=rfl;have KK:=fun(x:Nat×Nat) (hx:x.1<q.locals.length) (w':World) (hb:Below w.heap.size w w')=>vJ q x v u a w' (by rw[hb.block a aK];exact hp) (hv.below hb) ic hx
 have KS:=fun(x y:Nat×Nat) (hx:x.1<q.locals.length) (hy:y.1<q.locals.length) (w':World) (hb:Below w.heap.size w w')=>E6 q x y v u a w' (by rw[hb.block a aK];exact hp) (hv.below hb) ic hx hy
 have hq:q.fits l=(q.fJ (ae l.op) l.places 0&&(!(l.op==12)||q.br (l.places.getD 0 (0,0))==q.br (l.places.getD 1 (0,0)))):=rfl;have HQ:Hid (_=_):=hq;have aw:=hl.op;clear hq hl;have Ri:=aX;generalize hwA:(w.alloc (.cells #[.int .i64 (l.num:Nat),.int .i64 (l.op:Nat),.slice ap l.places.length cp,.int .i64 l.number,.int .i64 l.flag,.slice an l.next.length cn] 115))=wA at Ri bU Cr;go_enter Tryz.func171,Tryz.ntmps171
 subst hwA;go_wp2
 go_loopw [18] (fun i wr=>∃k:Nat,k<=l.places.length/\i=.int .i64 k/\Below (w.heap.size+1) (w.alloc (.cells #[.int .i64 (l.num:Nat),.int .i64 (l.op:Nat),.slice ap l.places.length cp,.int .i64 l.number,.int .i64 l.flag,.slice an l.next.length cn] 115)) wr/\Hid (q.fJ (ae l.op) l.places 0=q.fJ (ae l.op) (l.places.drop k) k)) (fun i _=>l.places.length-(intOf i).toNat)
 case atStart=>exact⟨0,jQ _,rfl,Below.refl _ _,HF⟩
 case round=>
  obtain⟨k,hk,rfl,Jm,HI⟩:=hrel;have hB:Below w.heap.size w wr:=aX.trans (Jm.mono (by omega));have sb:wr.heap[w.heap.size]?=_:=(Jm.block w.heap.size (by omega)).trans bU;by_cases hlt':k<l.places.length
  ·obtain⟨gp,rfl,-,ql,XC,c1,c2⟩:=da (ax hA.places hB) k hlt';have hx:=(Ew (l.places.getD k (0,0)) (by simp[hlt'])).1;have Wi:k<(ae l.op).length:=by omega
   have HS:Hid (_=_):=HI.out.trans (Gk q (ae l.op) l.places k hlt');have hc:Hid ((ae l.op).getD k 0=(ae l.op)[k]):=by unfold Hid;simp[Wi]
   generalize l.places.getD k (0,0)=x at*;have ke:Below wr.heap.size wr (wr.alloc (.cells #[.int .i64 (x.1:Nat),.int .i64 (x.2:Nat)] 119)):=(Below.refl _ _).alloc (jC _) _;have KX:=KK x hx _ (hB.trans (ke.mono hB.size));have KI:=fun w'=>KZ (q.br x) ((ae l.op)[k]) w'
   have Dd:∀w1,Below (wr.alloc (.cells #[.int .i64 (x.1:Nat),.int .i64 (x.2:Nat)] 119)).heap.size (wr.alloc (.cells #[.int .i64 (x.1:Nat),.int .i64 (x.2:Nat)] 119)) w1->Below (w.heap.size+1) (w.alloc (.cells #[.int .i64 (l.num:Nat),.int .i64 (l.op:Nat),.slice (some ⟨gp,0,none⟩) l.places.length cp,.int .i64 l.number,.int .i64 l.flag,.slice an l.next.length cn] 115)) w1:=fun w1 av=>by
    have h0:w.heap.size+1<=wr.heap.size:=by have:=Jm.size;simpa using this
    exact(Jm.trans (ke.mono h0)).trans (av.mono (jS h0 ke.size))
   cases hkd:q.kind x with
   |none=>
    have Xz:q.fits l=false:=by rw[HQ.out,HS.out,QP.bJ,hkd];rfl
    rw[hkd]at KX;clear hkd;go_wp2_with (go_at_call 207;refine KX.mono ?_;rintro e w1 ⟨rfl,av⟩)
    go_ret
    exact⟨Nc Xz.symm,(aX.trans ((Dd _ av).mono (by omega)))⟩
   |some t=>
    have hkv:=OB hkd;rw[hkd]at KX;rw[hkv]at KX KI;cases hik:gE t ((ae l.op)[k])with
    |false=>
     have Xz:q.fits l=false:=by rw[HQ.out,HS.out,QP.bJ,hkd,hc.out];simp only;rw[hik];rfl
     rw[hik]at KI;clear hkd hik hkv;go_wp2_with (first|(go_at_call 207;refine KX.mono ?_;rintro e w1 ⟨rfl,av⟩)|(go_at_call 208;refine(KI _).mono ?_;rintro e w2 ⟨rfl,rfl⟩))
     go_ret
     exact⟨Nc Xz.symm,(aX.trans ((Dd _ av).mono (by omega)))⟩
    |true=>
     have WQ:Hid (q.fJ (ae l.op) l.places 0=q.fJ (ae l.op) (l.places.drop (k+1)) (k+1)):=by
      unfold Hid;rw[HS.out,QP.bJ,hkd,hc.out];simp only;rw[hik];rfl
     rw[hik]at KI;clear hkd hik hkv;go_wp2_with (first|(go_at_call 207;refine KX.mono ?_;rintro e w1 ⟨rfl,av⟩)|(go_at_call 208;refine(KI _).mono ?_;rintro e w2 ⟨rfl,rfl⟩))
     go_roundw
     case rel=>exact⟨k+1,by omega,by go_num,Dd _ av,WQ⟩
     case measure=>simp[intOf];omega
  ·have MS:Hid (q.fits l=(!(l.op==12)||q.br (l.places.getD 0 (0,0))==q.br (l.places.getD 1 (0,0)))):=by
    unfold Hid;rw[HQ.out,HI.out,jT (by omega)];rfl
   have r1:wr.cell? ⟨w.heap.size,1,none⟩=some (.int .i64 (l.op:Nat)):=by rw[cell_of_heap sb];rfl
   have r2:wr.cell? ⟨w.heap.size,2,none⟩=some (.slice ap l.places.length cp):=by rw[cell_of_heap sb];rfl
   by_cases cf:l.op=12
   ·have h2:=hpm cf;obtain⟨gp,rfl,-,ql,XC,c1,c2⟩:=da (ax hA.places hB) 0 (by omega);obtain⟨gp',e,-,-,-,c3,c4⟩:=da (ax hA.places hB) 1 (by omega);simp only[Option.some.injEq,Addr.mk.injEq,and_true]at e;subst e;have Ju:=(Ew (l.places.getD 0 (0,0)) (by simp[h2])).1;have zn:=(Ew (l.places.getD 1 (0,0)) (by simp[h2])).1;have KX:=fun w' hb=>KS _ _ Ju zn w' hb
    have xR:q.fits l=(q.br (l.places.getD 0 (0,0))==q.br (l.places.getD 1 (0,0))):=by rw[MS.out,cf];rfl
    have hopb:(((l.op:Nat):Int) !=12)=false:=by rw[cf];rfl
    have d1:wr.cell? ⟨gp,0,none⟩=some (.int .i64 ((l.places.getD 0 (0,0)).1:Nat)):=c1;have d2:wr.cell? ⟨gp,1,none⟩=some (.int .i64 ((l.places.getD 0 (0,0)).2:Nat)):=c2;have d3:wr.cell? ⟨gp,2,none⟩=some (.int .i64 ((l.places.getD 1 (0,0)).1:Nat)):=c3;have d4:wr.cell? ⟨gp,3,none⟩=some (.int .i64 ((l.places.getD 1 (0,0)).2:Nat)):=c4;clear c1 c2 c3 c4 MS HQ HI HF;have HFI:Hid (_=_):=xR;clear xR;generalize l.places.getD 0 (0,0)=x at*;generalize l.places.getD 1 (0,0)=y at*;generalize (q.br x==q.br y)=bb at*;rw[h2]at r2;have KXd:=KX wr.drew ⟨hB.os,hB.tape,hB.output,hB.size,hB.block⟩;go_wp2
    go_region_with (go_at_call 209;refine KXd.mono ?_;rintro e w1 ⟨rfl,av⟩)
    all_goals (try go_wp2)
    all_goals
     go_ret
     exact⟨Nc HFI.out.symm,hB.trans ((show Below wr.heap.size wr w1 from⟨av.os,av.tape,av.output,av.size,av.block⟩).mono hB.size)⟩
   ·have hopb:(((l.op:Nat):Int) !=12)=true:=by simp;omega
    have xR:q.fits l=true:=by rw[MS.out];simp[cf]
    have HFI:Hid (_=_):=xR;clear MS HQ HI HF xR;go_wp2
    go_quiet (fail)
    go_wp2
    go_ret
    exact⟨Nc HFI.out.symm,below_drewN hB _⟩
end PrjT
namespace PrjQ
open Go Go.RowKit Sq Aux PrjF PrjG PrjH PrjI PrjJ PrjK PrjL PrjM PrjN PrjO PrjP
structure zx (S:List (Nat×List B)):Prop where
 fc:S.length<=4000
 op:∀j,j<S.length->(S.getD j (0,[])).1<23
 words:∀j,j<S.length->(S.getD j (0,[])).2.length=(ae (S.getD j (0,[])).1).length
 short:∀j i,(word (S.getD j (0,[])).2 i).length<=1048576
 order:∀j,j<S.length->2<=(S.getD j (0,[])).1->1<=countB (S.take j)
structure Made (nb:Nat)(S:List (Nat×List B))(k:Nat)(q:QP):Prop where
 same:ba nb S 0 QP.empty=ba nb (S.drop k) k q
 locals:q.locals.length<=k
 blocks:q.blocks.length=countB (S.take k)
 lines:∀j,(q.blocks.getD j []).length<=k
theorem Made.start (nb:Nat)(S:List (Nat×List B)):Made nb S 0 QP.empty:=⟨rfl,jC _,rfl,fun j=>by simp[QP.empty]⟩
section
variable {nb:Nat} {S:List (Nat×List B)} {k:Nat} {q:QP}
theorem getD_at (hk:k<S.length):S.getD k (0,[])=S[k]:=by simp[List.getD_eq_getElem?_getD,hk]
theorem Made.twice (h:Made nb S k q)(hk:k<S.length)(h0:(S.getD k (0,[])).1=0)(hf:0<=dE q.locals (word (S.getD k (0,[])).2 0)):(ba nb S 0 QP.empty).2=some k:=by
 rw[getD_at hk]at h0 hf;rw[h.same,jE hk,ba,jb h0,jb hf]
theorem Made.Yf (h:Made nb S k q)(hk:k<S.length)(h0:(S.getD k (0,[])).1=0)(hf:dE q.locals (word (S.getD k (0,[])).2 0)<0):Made nb S (k+1) (q.addLocal (word (S.getD k (0,[])).2 0,(gM (word (S.getD k (0,[])).2 1)).getD 0)):=by
 have hc:=mV S k hk;rw[ja (by omega)]at hc;rw[getD_at hk]at h0 hf⊢;refine⟨?_,by have:=h.locals;simp[QP.addLocal];omega,by rw[hc];exact h.blocks,fun j=>Nat.le_succ_of_le (h.lines j)⟩;rw[h.same,jE hk,ba,jb h0,ja (by omega)]
theorem Made.block (h:Made nb S k q)(hk:k<S.length)(h0:(S.getD k (0,[])).1=1):Made nb S (k+1) q.addBlock:=by
 have hc:=mV S k hk;rw[jb h0]at hc;rw[getD_at hk]at h0;refine⟨?_,by have:=h.locals;simp[QP.addBlock];omega,by rw[hc];simp[QP.addBlock,h.blocks],fun j=> ?_⟩
 ·rw[h.same,jE hk,ba,ja (by omega),jb h0]
 ·have:=h.lines j;simp only[QP.addBlock,List.getD_eq_getElem?_getD,List.getElem?_append]at this⊢;split
  ·omega
  ·by_cases hj:j-q.blocks.length=0
   ·rw[hj];simp
   ·rw[jG (by simp;omega)];simp
theorem Made.unknown (h:Made nb S k q)(hk:k<S.length)(h0:2<=(S.getD k (0,[])).1)(hl:ey q.locals nb (S.getD k (0,[]))=none):(ba nb S 0 QP.empty).2=some k:=by
 rw[getD_at hk]at h0 hl;rw[h.same,jE hk,ba,ja (by omega),ja (by omega),hl]
theorem Made.line (h:Made nb S k q)(hk:k<S.length)(h0:2<=(S.getD k (0,[])).1){l:aa}(hl:ey q.locals nb (S.getD k (0,[]))=some l)(n:Nat)(hn:q.blocks.length=n+1):Made nb S (k+1) (q.addLine {l with num:=k}):=by
 have hc:=mV S k hk;rw[ja (by omega)]at hc;rw[getD_at hk]at h0 hl;have hD:q.blocks.dropLast.length=n:=by simp[hn]
 have qQ:q.blocks.getLastD []=q.blocks.getD n []:=by
  rw[List.getLastD_eq_getLast?,List.getLast?_eq_getElem?,hn,Nat.add_sub_cancel,jA]
 refine⟨?_,by have:=h.locals;simp[QP.addLine];omega,by rw[hc,<-h.blocks];simp[QP.addLine,hn],fun j=> ?_⟩
 ·rw[h.same,jE hk,ba,ja (by omega),ja (by omega),hl]
 ·have h1:=h.lines j;have h2:=h.lines n;simp only[QP.addLine,qQ];rw[jA,List.getElem?_append];split
  ·rename_i hj;rw[List.getElem?_dropLast,jb (by omega),<-jA];omega
  ·by_cases hj:j-q.blocks.dropLast.length=0
   ·rw[hj];simp;simp only[List.getD_eq_getElem?_getD]at h2;omega
   ·rw[jG (by simp;omega)];simp
theorem Made.whole (h:Made nb S k q)(hk:¬k<S.length):ba nb S 0 QP.empty=(q,none):=by
 rw[h.same,jT (by omega),ba]
end
def iP (nb:Nat)(S:List (Nat×List B))(w:World)(e:Ending)(w':World):Prop:=
 Below w.heap.size w w'/\match ba nb S 0 QP.empty with
  |(_,some k)=>e=.returned (.tuple #[.pointer none,.int .i64 (k:Nat),.bool false])
  |(q,none)=>∃a vl vb us vss,e=.returned (.tuple #[.pointer (some ⟨a,0,none⟩),.int .i64 0,.bool true])/\lD w.heap.size a w' q vl vb us vss
theorem iP.bad {nb:Nat}{S:List (Nat×List B)}{w w':World}{k:Nat}(hb:Below w.heap.size w w')(h:(ba nb S 0 QP.empty).2=some k):iP nb S w (.returned (.tuple #[.pointer none,.int .i64 (k:Nat),.bool false])) w':=by
 refine⟨hb,?_⟩;generalize ba nb S 0 QP.empty=R at h;obtain⟨q,x⟩:=R;simp only at h;subst h;rfl
theorem iP.mi {nb:Nat}{S:List (Nat×List B)}{w w':World}{q:QP}{a:Nat}{vl vb:Value}{us:List Value}{vss:List (List (Value×Value))}(hb:Below w.heap.size w w')(h:ba nb S 0 QP.empty=(q,none))(hp:lD w.heap.size a w' q vl vb us vss):iP nb S w (.returned (.tuple #[.pointer (some ⟨a,0,none⟩),.int .i64 0,.bool true])) w':=by
 refine⟨hb,?_⟩;rw[h];exact⟨a,vl,vb,us,vss,rfl,hp⟩
theorem Kv:(Tryz.prog.info? 146).map (fun i=>(i.zero,i.size,i.bytes))=some (some (.agg #[.string ⟨#[]⟩,.int .i64 0]),2,24):=by kernel_rfl
theorem Kt:(Tryz.prog.info? 106).map (fun i=>(i.zero,i.size,i.bytes))=some (some (.slice none 0 0),1,24):=by kernel_rfl
theorem Ku:(Tryz.prog.info? 115).map (fun i=>(i.zero,i.size,i.bytes))=some (some (.agg #[.int .i64 0,.int .i64 0,.slice none 0 0,.int .i64 0,.int .i64 0,.slice none 0 0]),6,80):=by kernel_rfl
theorem lD.facts {z a:Nat}{w:World}{q:QP}{vl vb:Value}{us:List Value}{vss:List (List (Value×Value))}(h:lD z a w q vl vb us vss):w.cell? ⟨a,0,none⟩=some vl/\w.cell? ⟨a,1,none⟩=some vb/\w.frozen? ⟨a,0,none⟩=false/\w.frozen? ⟨a,1,none⟩=false:=
 ⟨by rw[cell_of_heap h.aI];rfl,by rw[cell_of_heap h.aI];rfl,frozen_of_heap h.aI 0,frozen_of_heap h.aI 1⟩
theorem zf {w:World}{gw ow n cw:Nat}{L:List B}(h:fN w (.slice (some ⟨gw,ow,none⟩) n cw) L):L.length<=cw/\gw<w.heap.size/\∀j,j<L.length->w.cell? ⟨gw,ow+j,none⟩=some (.string (bs (word L j))):=by
 obtain⟨g,o,cap,e,hc,⟨cs,f,hg⟩,aC⟩:=h;simp only[Value.slice.injEq,Option.some.injEq,Addr.mk.injEq,and_true]at e;obtain⟨⟨rfl,rfl⟩,-,rfl⟩:=e;exact⟨hc,lt_of_heap hg,aC⟩
theorem O9 {n:ByteArray}{t:Int}:∀u'∈[Value.string n,Value.int .i64 t],u'.oneCell'=true:=by
 intro u' hu;simp at hu;rcases hu with rfl|rfl<;>rfl
theorem SH {a b c d:Int}{ap an:Option Addr}{np cp nn cn:Nat}:∀u'∈[Value.int .i64 a,Value.int .i64 b,Value.slice ap np cp,Value.int .i64 c,Value.int .i64 d,Value.slice an nn cn],u'.oneCell'=true:=by
 intro u' hu;simp at hu;rcases hu with rfl|rfl|rfl|rfl|rfl|rfl<;>rfl
theorem JM {z n m k gb cb:Nat}{w w':World}{us xs:List Value}{v:Value}(hb:w.ownsRow z 106 1 (.slice (some ⟨gb,0,none⟩) (n+1) cb) m us)(ho:w.ownsRow z 115 6 v k xs)(hg:w.grownBy w' v.ownBlock)(_hm:n<m){u:Value}(hc:w.cell? ⟨gb,n,none⟩=some u):w'.cell? ⟨gb,n,none⟩=some u/\w'.frozen? ⟨gb,n,none⟩=false:=by
 rcases hb.2 with⟨e,-⟩|⟨g',cap',cur',e,-,Rv,-⟩
 ·cases e
 ·simp only[Value.slice.injEq,Option.some.injEq,Addr.mk.injEq,and_true]at e;obtain⟨rfl,-⟩:=e;have h':w'.heap[gb]?=w.heap[gb]?:=hg.block gb (lt_of_heap Rv) (bh ho Rv (by decide));exact⟨(World.cell?_of_block (a:=⟨gb,n,none⟩) h').trans hc,(World.frozen?_of_block (a:=⟨gb,n,none⟩) h').trans (frozen_of_heap Rv n)⟩
set_option maxRecDepth 20000 in
set_option maxHeartbeats 4000000 in
theorem Lo {z g cap:Nat}{S:List (Nat×List B)}{vs:List Value}(w:World)(h:cR z w (.slice (some ⟨g,0,none⟩) S.length cap) S vs)(hS:zx S)(_hg:g<w.heap.size)(kL:S.length<=cap)(E:Env w):
  Calls Tryz.prog 117 #[.slice (some ⟨g,0,none⟩) S.length cap] w (iP (countB S) S w):=by
 obtain⟨il,hil,zL,tm,Dg⟩:=info_parts Kv;obtain⟨ib,hib,fB,av,bT⟩:=info_parts Kt;obtain⟨in_,lf,hn0,Wl,hn2⟩:=info_parts Ku;have xQ:=hS.fc;have iq:=lD.start w.heap.size w (jC _);have UO:Below w.heap.size w (w.alloc (.cells #[.slice none 0 0,.slice none 0 0] 110)):=(Below.refl _ _).alloc (jC _) _;have hst2:=iq;have KC:=zg (w.alloc (.cells #[.slice none 0 0,.slice none 0 0] 110)) (h.below UO) xQ kL;go_enter Tryz.func117,Tryz.ntmps117
 go_wp2_with (go_at_call 167;refine KC.mono ?_;rintro e w1 ⟨rfl,oM⟩)
 have Gy:=iq.below oM;have lu:Below w.heap.size w w1:=UO.trans (oM.mono UO.size);have FB:=countB_le S;go_loopw [2,19] (fun pv i wr=>∃(k:Nat) (q:QP) (vl vb:Value) (us:List Value) (vss:List (List (Value×Value))),k<=S.length/\i=.int .i64 k/\pv=.pointer (some ⟨w.heap.size,0,none⟩)/\lD w.heap.size w.heap.size wr q vl vb us vss/\Hid (vss.length=q.blocks.length)/\Below w.heap.size w wr/\Hid (Made (countB S) S k q)) (fun _ i _=>S.length-(intOf i).toNat)
 case atStart=>exact⟨0,QP.empty,_,_,[],[],jQ _,rfl,rfl,Gy,rfl,lu,Made.start _ _⟩
 case round=>
  obtain⟨k,q,vl,vb,us,vss,hk,rfl,rfl,hP,HV,hB,HM⟩:=hrel;clear Gy lu oM iq hst2 KC UO;by_cases aK:k<S.length
  ·obtain⟨h1,gw,ow,cw,h2,hW⟩:=za (h.below hB) k aK;obtain⟨p0,p1,pf0,pf1⟩:=lD.facts hP;have aw:=hS.op k aK;have Va:=hS.words k aK;have Cr:=hS.short k;have RI:=hS.order k aK;have E1:=E.on hB;have T1:Hid ((S.getD k (0,[])).1=0->0<=dE q.locals (word (S.getD k (0,[])).2 0)->(ba (countB S) S 0 QP.empty).2=some k):=HM.out.twice aK;have T2:Hid ((S.getD k (0,[])).1=0->dE q.locals (word (S.getD k (0,[])).2 0)<0->Made (countB S) S (k+1) (q.addLocal (word (S.getD k (0,[])).2 0,(gM (word (S.getD k (0,[])).2 1)).getD 0))):=HM.out.Yf aK;have T3:Hid ((S.getD k (0,[])).1=1->Made (countB S) S (k+1) q.addBlock):=HM.out.block aK;have T4:Hid (2<=(S.getD k (0,[])).1->ey q.locals (countB S) (S.getD k (0,[]))=none->(ba (countB S) S 0 QP.empty).2=some k):=HM.out.unknown aK;have T5:Hid (2<=(S.getD k (0,[])).1->∀l,ey q.locals (countB S) (S.getD k (0,[]))=some l->∀n,q.blocks.length=n+1->Made (countB S) S (k+1) (q.addLine {l with num:=k})):=fun a l b n c=>HM.out.line aK a b n c
   have hq1:=HM.out.locals;have XT:=HM.out.blocks;have hq3:=HM.out.lines;clear HM;generalize S.getD k (0,[])=x at*;obtain⟨op,ws⟩:=x;simp only at h1 h2 hW aw Va Cr RI T1 T2 T3 T4 T5;by_cases h0:op=0
   ·subst h0;have hwl2:ws.length=2:=Va;rw[hwl2]at h2 hW;obtain⟨hcw,UR,aC⟩:=zf hW;have mY:wr.cell? ⟨gw,ow,none⟩=some (.string (bs (word ws 0))):=aC 0 (by omega);have ko:wr.cell? ⟨gw,ow+1,none⟩=some (.string (bs (word ws 1))):=aC 1 (by omega);have Cm:Below wr.heap.size wr (wr.alloc (.cells #[.int .i64 0,.slice (some ⟨gw,ow,none⟩) 2 cw] 240)):=(Below.refl _ _).alloc (jC _) _;have hsS:(wr.alloc (.cells #[.int .i64 0,.slice (some ⟨gw,ow,none⟩) 2 cw] 240)).heap.size=wr.heap.size+1:=by simp
    have N7:=hP.below Cm;have KF:=mh q.locals vl vb (word ws 0) w.heap.size _ N7.aI ⟨_,N7.locals⟩ (by omega);have t1:(wr.alloc (.cells #[.int .i64 0,.slice (some ⟨gw,ow,none⟩) 2 cw] 240)).cell? ⟨wr.heap.size,1,none⟩=some (.slice (some ⟨gw,ow,none⟩) 2 cw):=by simp
    have hc0S:(wr.alloc (.cells #[.int .i64 0,.slice (some ⟨gw,ow,none⟩) 2 cw] 240)).cell? ⟨gw,ow,none⟩=some (.string (bs (word ws 0))):=(Cm.cell (p:=⟨gw,ow,none⟩) UR).trans mY;have hc1S:(wr.alloc (.cells #[.int .i64 0,.slice (some ⟨gw,ow,none⟩) 2 cw] 240)).cell? ⟨gw,ow+1,none⟩=some (.string (bs (word ws 1))):=(Cm.cell (p:=⟨gw,ow+1,none⟩) UR).trans ko;have hgS:gw<(wr.alloc (.cells #[.int .i64 0,.slice (some ⟨gw,ow,none⟩) 2 cw] 240)).heap.size:=by omega
    have hwS:wr.heap.size<(wr.alloc (.cells #[.int .i64 0,.slice (some ⟨gw,ow,none⟩) 2 cw] 240)).heap.size:=by omega
    have Gx:=hB.trans (Cm.mono hB.size);by_cases hf:0<=dE q.locals (word ws 0)
    ·have hx:=T1.out rfl hf;clear T1 T2 T3 T4 T5 aC;go_wp2_with (go_at_call 168;refine KF.mono ?_;rintro e w2 ⟨rfl,bT⟩)
     go_ret3
     exact iP.bad (Gx.trans (bT.mono Gx.size)) hx
    ·have Y9:Hid (_):=T2.out rfl (by omega);have YM:dE q.locals (word ws 0)<0:=by omega
     clear T1 T2 T3 T4 T5 aC hf;have KT:=fun w' (E':Env w')=>iA (word ws 1) w' E'.types
     go_upto_region 17 with(first
      |(go_at_call 168;refine KF.mono ?_;rintro e w2 ⟨rfl,bT⟩;have t2:=(bT.cell (p:=⟨wr.heap.size,1,none⟩) hwS).trans t1;have hc02:=(bT.cell (p:=⟨gw,ow,none⟩) hgS).trans hc0S;have hc12:=(bT.cell (p:=⟨gw,ow+1,none⟩) hgS).trans hc1S;have hw2:=jK hwS bT.size;have Ki:=jK hgS bT.size)
      |(go_at_call 169;refine(KT _ ((E1.on Cm).on bT)).mono ?_;rintro e w3 ⟨rfl,lI⟩;have t3:=(lI.cell (p:=⟨wr.heap.size,1,none⟩) hw2).trans t2;have hc03:=(lI.cell (p:=⟨gw,ow,none⟩) Ki).trans hc02))
     have YH:=(N7.below bT).below lI;obtain⟨q0,q1,qf0,qf1⟩:=lD.facts YH;have Jk:=(Gx.trans (bT.mono Gx.size)).trans (lI.mono (Gx.trans (bT.mono Gx.size)).size);have aX:Below w3.heap.size w3 (w3.alloc (.cells #[.string (bs (word ws 0)),.int .i64 ((gM (word ws 1)).getD 0:Nat)] 146)):=(Below.refl _ _).alloc (jC _) _;have qt:w.heap.size<=(w3.alloc (.cells #[.string (bs (word ws 0)),.int .i64 ((gM (word ws 1)).getD 0:Nat)] 146)).heap.size:=jS Jk.size aX.size;have sK:=ax YH.locals aX;have qP:=(YH.below aX).aI;have hcA:=(lD.facts (YH.below aX)).1;have hlocs:Hid (_):=hq1;go_region_law (refine rB (by rfl) _ _ _ (by rfl) w.heap.size 146 il (.agg #[.string ⟨#[]⟩,.int .i64 0]) 2 24 Tryz.underlying107 hil zL tm Dg (by rfl) (by decide) vl _ _ (by rfl) sK w3.heap.size [.string (bs (word ws 0)),.int .i64 ((gM (word ws 1)).getD 0:Nat)] (by rfl) jD (by rfl) O9 (by decide) (by omega) qt ?_;intro g4 c4 w4 hown4 hgrow4 hat4 hlt4;have gJ:w4.heap[w.heap.size]?=_:=(hgrow4.block _ (lt_of_heap qP) (bh sK qP (by decide))).trans qP;have r0:w4.cell? ⟨w.heap.size,0,none⟩=some vl:=(by rw[cell_of_heap gJ];rfl);have rf0:w4.frozen? ⟨w.heap.size,0,none⟩=false:=frozen_of_heap gJ 0)
     all_goals go_wp2_with fail
     all_goals
      have tl:(w3.alloc (.cells #[.string (bs (word ws 0)),.int .i64 ((gM (word ws 1)).getD 0:Nat)] 146)).grownBy w4 vl.ownBlock:=⟨hgrow4.os,hgrow4.tape,hgrow4.output,hgrow4.size,hgrow4.block⟩;have zi:=fp Jk (jC _) Jk.size YH.locals tl;exact⟨⟨k+1,_,_,vb,us,vss,by omega,by go_num,rfl,YH.addLocal (word ws 0,(gM (word ws 1)).getD 0) aX hown4 tl,HV,zi.trans (((bu.refl _ w4).setCell 0 _).below (jC _) zi.size),Y9⟩,by simp[intOf];omega⟩
   ·by_cases TN:op=1
    ·subst TN;have Y9:Hid (_):=T3.out rfl;clear T1 T2 T3 T4 T5;have hwl0:ws.length=0:=Va;rw[hwl0]at h2;clear Va hwl0 hW Cr RI;have Cm:Below wr.heap.size wr (wr.alloc (.cells #[.int .i64 1,.slice (some ⟨gw,ow,none⟩) 0 cw] 240)):=(Below.refl _ _).alloc (jC _) _;have N7:=hP.below Cm;obtain⟨q0,q1,qf0,qf1⟩:=lD.facts N7;have Gx:=hB.trans (Cm.mono hB.size);have aX:Below (wr.alloc (.cells #[.int .i64 1,.slice (some ⟨gw,ow,none⟩) 0 cw] 240)).heap.size (wr.alloc (.cells #[.int .i64 1,.slice (some ⟨gw,ow,none⟩) 0 cw] 240)) ((wr.alloc (.cells #[.int .i64 1,.slice (some ⟨gw,ow,none⟩) 0 cw] 240)).alloc (.cells #[.slice none 0 0] 106)):=(Below.refl _ _).alloc (jC _) _;have qP:=(N7.below aX).aI;have sK:=ax N7.blocks aX;have RL:q.blocks.length<=4000:=by have:=countB_le (S.take k);simp at this;omega
     clear XT;have hsS:(wr.alloc (.cells #[.int .i64 1,.slice (some ⟨gw,ow,none⟩) 0 cw] 240)).heap.size=wr.heap.size+1:=by simp
     have ZH:((wr.alloc (.cells #[.int .i64 1,.slice (some ⟨gw,ow,none⟩) 0 cw] 240)).alloc (.cells #[.slice none 0 0] 106)).heap[wr.heap.size+1]?=some (.cells #[.slice none 0 0] 106 (0,0)):=by
      rw[<-hsS];exact jD
     have U8:=jS Gx.size aX.size;go_wp2_with (at_builtin;go_must (refine kg rfl _ _ 108 rfl w.heap.size 106 ib (.slice none 0 0) 1 24 Tryz.underlying108 hib fB av bT rfl (by decide) vb _ _ rfl sK (wr.heap.size+1) [.slice none 0 0] rfl ZH rfl (by intro u' hu;simp at hu;subst hu;rfl) (by decide) (by omega) U8 ?_);intro g4 c4 w4 hown4 hgrow4 hat4 hlt4;have gJ:w4.heap[w.heap.size]?=_:=(hgrow4.block _ (lt_of_heap qP) (bh sK qP (by decide))).trans qP;have r1:w4.cell? ⟨w.heap.size,1,none⟩=some vb:=(by rw[cell_of_heap gJ];rfl);have rf1:w4.frozen? ⟨w.heap.size,1,none⟩=false:=frozen_of_heap gJ 1)
     go_roundw
     case rel=>
      have zi:=fp Gx (jC _) Gx.size N7.blocks hgrow4;exact⟨k+1,_,vl,_,us++[.slice none 0 0],vss++[[]],by omega,by go_num,rfl,N7.addBlock HV.out aX hown4 hgrow4,by unfold Hid;simp[QP.addBlock,HV.out],zi.trans (((bu.refl _ w4).setCell 1 _).below (jC _) zi.size),Y9⟩
     case measure=>simp[intOf];omega
    ·have U3:2<=op:=by omega
     have b0:((op:Int)==0)=false:=by rw[jZ];omega
     have b1:((op:Int)==1)=false:=by rw[jZ];omega
     obtain⟨n,hn⟩:∃n,q.blocks.length=n+1:=⟨q.blocks.length-1,by have:=RI U3;omega⟩;have RL:n+1<=4000:=by have:=countB_le (S.take k);simp at this;omega
     obtain⟨hcw,UR,aC⟩:=zf hW;rw[Va]at h2 hcw aC;have Cm:Below wr.heap.size wr (wr.alloc (.cells #[.int .i64 (op:Nat),.slice (some ⟨gw,ow,none⟩) (ae op).length cw] 240)):=(Below.refl _ _).alloc (jC _) _;have N7:=hP.below Cm;have Gx:=hB.trans (Cm.mono hB.size);have KL:=Lh q.locals (countB S) op w.heap.size gw ow cw ws vl vb _ N7.aI ⟨_,N7.locals⟩ (by omega) (by omega) aw Va hcw (jK UR Cm.size) (fun j hj=>(Cm.cell (p:=⟨gw,ow+j,none⟩) UR).trans (aC j hj)) Cr (E1.on Cm);unfold fT at KL;cases hl:ey q.locals (countB S) (op,ws)with
     |none=>
      have hx:=T4.out U3 hl;rw[hl]at KL;clear T1 T2 T3 T4 T5 aC hl RI;go_wp2_with (go_at_call 170;refine KL.mono ?_;rintro e w2 ⟨pE,rfl⟩)
      go_ret3
      have hBq:=Gx.trans (pE.mono Gx.size);exact iP.bad (hBq.alloc hBq.size _) hx
     |some l=>
      have Y9:Hid (_):=T5.out U3 l hl n hn;rw[hl]at KL
      replace KL:=KL.mono (R':=fun e w'=>Below (wr.alloc (.cells #[.int .i64 (op:Nat),.slice (some ⟨gw,ow,none⟩) (ae op).length cw] 240)).heap.size (wr.alloc (.cells #[.int .i64 (op:Nat),.slice (some ⟨gw,ow,none⟩) (ae op).length cw] 240)) w'/\∃ap cp an cn,e=.returned (.tuple #[.agg #[.int .i64 (l.num:Nat),.int .i64 (l.op:Nat),.slice ap l.places.length cp,.int .i64 l.number,.int .i64 l.flag,.slice an l.next.length cn],.bool true])/\bp w.heap.size w' l (.slice ap l.places.length cp) (.slice an l.next.length cn)) fun e w' ⟨h1,vp,vn,h2,h3⟩=>by
       obtain⟨ap,cp,rfl⟩:=bZ h3.places;obtain⟨an,cn,rfl⟩:=bZ h3.next;exact⟨h1,ap,cp,an,cn,h2,⟨oX h3.places Gx.size,oX h3.next Gx.size⟩⟩
      obtain⟨gb,cb,X7,hcb1,Rw,Kg⟩:=dJ hP.blocks (by omega);rw[hn]at X7 hcb1 Kg;subst X7;have Dd:wr.cell? ⟨gb,n,none⟩=some (us.getD n undef):=by
       rw[Kg n (by omega),jA,jB (by rw[hP.WK];omega)];rfl
      have ZG:wr.frozen? ⟨gb,n,none⟩=false:=by
       rcases hP.blocks.2 with⟨e,-⟩|⟨g',cap',cur',e,-,Rv,-⟩
       ·cases e
       ·simp only[Value.slice.injEq,Option.some.injEq,Addr.mk.injEq,and_true]at e;obtain⟨rfl,-⟩:=e;exact frozen_of_heap Rv n
      have eX:(q.blocks.getD n []).length<=4000:=by have:=hq3 n;omega
      clear T1 T2 T3 T4 T5 aC hl RI Kg hq3 XT;go_upto_region 12 with(go_at_call 170;refine KL.mono ?_;rintro e w2 ⟨pE,ap,cp,an,cn,rfl,hLA⟩;have zj:=N7.below pE;have zI:Below w2.heap.size w2 (w2.alloc (.cells #[.int .i64 (k:Nat),.int .i64 (l.op:Nat),.slice ap l.places.length cp,.int .i64 l.number,.int .i64 l.flag,.slice an l.next.length cn] 115)):=(Below.refl _ _).alloc (jC _) _;have UB:=zj.below zI;obtain⟨q0,q1,qf0,qf1⟩:=lD.facts UB)
      have ml:=Gx.trans (pE.mono Gx.size);have Jl:=ml.trans (zI.mono ml.size);have GK:(w2.alloc (.cells #[.int .i64 (k:Nat),.int .i64 (l.op:Nat),.slice ap l.places.length cp,.int .i64 l.number,.int .i64 l.flag,.slice an l.next.length cn] 115)).heap[w2.heap.size]?=some (.cells #[.int .i64 (k:Nat),.int .i64 (l.op:Nat),.slice ap l.places.length cp,.int .i64 l.number,.int .i64 l.flag,.slice an l.next.length cn] 115 (0,0)):=jD;have MR:=hLA.below zI;have hbnL:=(zI.cell (p:=⟨gb,n,none⟩) (jK (jK Rw Cm.size) pE.size)).trans ((pE.cell (p:=⟨gb,n,none⟩) (jK Rw Cm.size)).trans ((Cm.cell (p:=⟨gb,n,none⟩) Rw).trans Dd));have hbfL:=(zI.frozen (p:=⟨gb,n,none⟩) (jK (jK Rw Cm.size) pE.size)).trans ((pE.frozen (p:=⟨gb,n,none⟩) (jK Rw Cm.size)).trans ((Cm.frozen (p:=⟨gb,n,none⟩) Rw).trans ZG));generalize (w2.alloc (.cells #[.int .i64 (k:Nat),.int .i64 (l.op:Nat),.slice ap l.places.length cp,.int .i64 l.number,.int .i64 l.flag,.slice an l.next.length cn] 115))=wL at*;have l0:wL.cell? ⟨w2.heap.size,0,none⟩=some (.int .i64 (k:Nat)):=by rw[cell_of_heap GK];rfl
      have l1:wL.cell? ⟨w2.heap.size,1,none⟩=some (.int .i64 (l.op:Nat)):=by rw[cell_of_heap GK];rfl
      have l2:wL.cell? ⟨w2.heap.size,2,none⟩=some (.slice ap l.places.length cp):=by rw[cell_of_heap GK];rfl
      have l3:wL.cell? ⟨w2.heap.size,3,none⟩=some (.int .i64 l.number):=by rw[cell_of_heap GK];rfl
      have l4:wL.cell? ⟨w2.heap.size,4,none⟩=some (.int .i64 l.flag):=by rw[cell_of_heap GK];rfl
      have l5:wL.cell? ⟨w2.heap.size,5,none⟩=some (.slice an l.next.length cn):=by rw[cell_of_heap GK];rfl
      have aX:Below wL.heap.size wL (wL.alloc (.cells #[.int .i64 (k:Nat),.int .i64 (l.op:Nat),.slice ap l.places.length cp,.int .i64 l.number,.int .i64 l.flag,.slice an l.next.length cn] 115)):=(Below.refl _ _).alloc (jC _) _;have qt:w.heap.size<=(wL.alloc (.cells #[.int .i64 (k:Nat),.int .i64 (l.op:Nat),.slice ap l.places.length cp,.int .i64 l.number,.int .i64 l.flag,.slice an l.next.length cn] 115)).heap.size:=jS Jl.size aX.size;have sK:=ax (UB.each n (by omega)).row aX;obtain⟨m,hm⟩:∃m,m=(q.blocks.getD n []).length:=⟨_,rfl⟩;rw[<-hm]at sK eX;have Hm:Hid (m=(q.blocks.getD n []).length):=hm;have hgbz:w.heap.size<=gb:=(hP.blocks.lt gb rfl).1;clear hm;have yQ:=UB.below aX;have qP:=yQ.aI;have q1A:=(lD.facts yQ).2.1;have hgL:gb<wL.heap.size:=by have:=pE.size;have:=Cm.size;have:=zI.size;omega
      have hbnA:=(aX.cell (p:=⟨gb,n,none⟩) hgL).trans hbnL;have hrowB:=yQ.blocks;have Rx:(n:Int)<(n:Int)+1:=by omega
      go_region_law (refine rB (by rfl) _ _ _ (by rfl) w.heap.size 115 in_ (.agg #[.int .i64 0,.int .i64 0,.slice none 0 0,.int .i64 0,.int .i64 0,.slice none 0 0]) 6 80 Tryz.underlying106 lf hn0 Wl hn2 (by rfl) (by decide) (us.getD n undef) _ _ (by rfl) sK wL.heap.size [.int .i64 (k:Nat),.int .i64 (l.op:Nat),.slice ap l.places.length cp,.int .i64 l.number,.int .i64 l.flag,.slice an l.next.length cn] (by rfl) jD (by rfl) SH (by decide) (by omega) qt ?_;intro g4 c4 w4 hown4 hgrow4 hat4 hlt4;have gJ:w4.heap[w.heap.size]?=_:=(hgrow4.block _ (lt_of_heap qP) (bh sK qP (by decide))).trans qP;have r1:=(cell_of_heap gJ 1).trans (by rfl:_=some (Value.slice (some ⟨gb,0,none⟩) (n+1) cb));have tl:(wL.alloc (.cells #[.int .i64 (k:Nat),.int .i64 (l.op:Nat),.slice ap l.places.length cp,.int .i64 l.number,.int .i64 l.flag,.slice an l.next.length cn] 115)).grownBy w4 (us.getD n undef).ownBlock:=⟨hgrow4.os,hgrow4.tape,hgrow4.output,hgrow4.size,hgrow4.block⟩;obtain⟨s1,s2⟩:=JM hrowB sK tl (by omega) hbnA)
      all_goals go_wp2_with fail
      all_goals exact⟨⟨k+1,_,vl,_,_,_,by omega,by go_num,rfl,UB.addLine HV.out n hn {l with num:=k} _ _ ⟨MR.places,MR.next⟩ aX rfl rfl (hat4.imp id fun e=>Nat.le_of_eq e.symm) (by rw[<-Hm.out];exact hown4) tl,by unfold Hid;simp[QP.addLine,HV.out,hn],(fp Jl (jC _) Jl.size (UB.each n (by omega)).row tl).trans (((bu.refl _ w4).setCell n _).below hgbz (fp Jl (jC _) Jl.size (UB.each n (by omega)).row tl).size),Y9⟩,by simp[intOf];omega⟩
  ·have hw:=HM.out.whole aK;go_wp2
   go_ret3
   exact iP.mi hB hw hP
end PrjQ
namespace PrjU
open Go Go.RowKit Sq Aux PrjF PrjG PrjH PrjI PrjJ PrjK PrjL PrjM PrjN PrjO PrjP PrjQ PrjR PrjS PrjT
theorem yG {z:Nat}{w:World}{v:Value}{ls:List aa}{vs:List (Value×Value)}(h:fh z w v ls vs):∃ad c,v=.slice ad ls.length c:=bZ h.row
theorem FR {z:Nat}{w:World}{ad:Option Addr}{n c:Nat}{ls:List aa}{vs:List (Value×Value)}(h:fh z w (.slice ad n c) ls vs)(j:Nat)(hj:j<ls.length):
  ∃g ap cp an cn,ad=some ⟨g,0,none⟩/\n=ls.length/\ls.length<=c/\g<w.heap.size/\w.cell? ⟨g,j*6,none⟩=some (.int .i64 ((ls.getD j aa.nil).num:Nat))/\w.cell? ⟨g,j*6+1,none⟩=some (.int .i64 ((ls.getD j aa.nil).op:Nat))/\w.cell? ⟨g,j*6+2,none⟩=some (.slice ap (ls.getD j aa.nil).places.length cp)/\
   w.cell? ⟨g,j*6+3,none⟩=some (.int .i64 (ls.getD j aa.nil).number)/\w.cell? ⟨g,j*6+4,none⟩=some (.int .i64 (ls.getD j aa.nil).flag)/\w.cell? ⟨g,j*6+5,none⟩=some (.slice an (ls.getD j aa.nil).next.length cn)/\
   bp z w (ls.getD j aa.nil) (.slice ap (ls.getD j aa.nil).places.length cp) (.slice an (ls.getD j aa.nil).next.length cn):=by
 obtain⟨g,cap,hv,hc,hg,aC⟩:=dJ h.row (by omega);simp only[Value.slice.injEq]at hv;obtain⟨rfl,rfl,rfl⟩:=hv;have hE:=h.each j hj;obtain⟨ap,cp,h1⟩:=bZ hE.places;obtain⟨an,cn,h2⟩:=bZ hE.next;have hjv:j<vs.length:=by rw[h.len];exact hj
 have hz:(ls.zip vs)[j]?=some (ls.getD j aa.nil,vs.getD j (undef,undef)):=by
  simp[List.getElem?_zip_eq_some,hj,hjv]
 have key:∀i,i<6->w.cell? ⟨g,j*6+i,none⟩=(mC (ls.getD j aa.nil,vs.getD j (undef,undef)))[i]?:=fun i hi=>by
  rw[aC _ (by omega),iF,jm mC 6 (fun _=>rfl) _ j i hi,hz];rfl
 have k0:=key 0 (by decide);have k1:=key 1 (by decide);have k2:=key 2 (by decide);have k3:=key 3 (by decide);have k4:=key 4 (by decide);have k5:=key 5 (by decide);rw[h1,h2]at hE;refine⟨g,ap,cp,an,cn,rfl,rfl,hc,hg,k0,k1,?_,k3,k4,?_,hE⟩
 ·rw[k2];show some (vs.getD j (undef,undef)).1=_;rw[h1]
 ·rw[k5];show some (vs.getD j (undef,undef)).2=_;rw[h2]
theorem FT {z a:Nat}{w:World}{q:QP}{vl vb:Value}{us:List Value}{vss:List (List (Value×Value))}(h:lD z a w q vl vb us vss)(j:Nat)(hj:j<q.blocks.length):
  ∃gb cb ad c,vb=.slice (some ⟨gb,0,none⟩) q.blocks.length cb/\q.blocks.length<=cb/\gb<w.heap.size/\w.cell? ⟨gb,j,none⟩=some (.slice ad (q.blocks.getD j []).length c)/\fh z w (.slice ad (q.blocks.getD j []).length c) (q.blocks.getD j []) (vss.getD j []):=by
 obtain⟨g,cap,hv,hc,hg,aC⟩:=dJ h.blocks (by omega);have hE:=h.each j hj;obtain⟨ad,c,e⟩:=yG hE;rw[e]at hE;refine⟨g,cap,ad,c,hv,hc,hg,?_,hE⟩;rw[aC j (by omega),<-e,jA,jB (by rw[h.WK];exact hj)];rfl
def kt (q:QP)(j i:Nat):List aa:=((q.blocks.getD j []).drop i)++(q.blocks.drop (j+1)).flatten
def ll (q:QP)(l:List aa):Option Nat:=(l.find? fun l=> !q.fits l).map (·.num)
theorem Lu (q:QP):q.misfit=ll q (q.blocks.drop 0).flatten:=rfl
theorem Lt (q:QP)(j:Nat)(hj:j<q.blocks.length):(q.blocks.drop j).flatten=kt q j 0:=by
 rw[jE hj,List.flatten_cons,kt,List.drop_zero];simp[hj]
theorem OX (q:QP)(j i:Nat)(hi:i<(q.blocks.getD j []).length):ll q (kt q j i)=if q.fits ((q.blocks.getD j []).getD i aa.nil)=true then ll q (kt q j (i+1))else some ((q.blocks.getD j []).getD i aa.nil).num:=by
 rw[ll,kt,jE hi,jW,List.find?_cons];have:(q.blocks.getD j []).getD i aa.nil=(q.blocks.getD j [])[i]:=by rw[jA,jB hi];rfl
 rw[this];cases q.fits (q.blocks.getD j [])[i]
 ·rfl
 ·rfl
theorem OW (q:QP)(j:Nat):kt q j (q.blocks.getD j []).length=(q.blocks.drop (j+1)).flatten:=by
 rw[kt,List.drop_length];rfl
def kI (q:QP)(w:World)(e:Ending)(w':World):Prop:=
 Below w.heap.size w w'/\match q.misfit with
  |some k=>e=.returned (.tuple #[.int .i64 (k:Nat),.bool true])
  |none=>e=.returned (.tuple #[.int .i64 0,.bool false])
theorem kI.some {q:QP}{w w':World}{k:Nat}(hb:Below w.heap.size w w')(h:q.misfit=some k):kI q w (.returned (.tuple #[.int .i64 (k:Nat),.bool true])) w':=by
 refine⟨hb,?_⟩;rw[h]
theorem kI.none {q:QP}{w w':World}(hb:Below w.heap.size w w')(h:q.misfit=none):kI q w (.returned (.tuple #[.int .i64 0,.bool false])) w':=by
 refine⟨hb,?_⟩;rw[h]
set_option maxRecDepth 20000 in
set_option maxHeartbeats 2000000 in
theorem Ls (q:QP)(nb z a:Nat)(vl vb:Value)(us:List Value)(vss:List (List (Value×Value)))(w:World)(hP:lD z a w q vl vb us vss)(ic:q.locals.length<=4000)(hq:Jw nb q)(qk:q.blocks.length<=4000)(eX:∀j,(q.blocks.getD j []).length<=4000)(E:Env w):
  Calls Tryz.prog 118 #[.pointer (some ⟨a,0,none⟩)] w (kI q w):=by
 obtain⟨p0,p1,pf0,pf1⟩:=lD.facts hP;have HM:Hid (q.misfit=ll q (q.blocks.drop 0).flatten):=Lu q;obtain⟨adb,cb,X7⟩:=bZ hP.blocks;subst X7;go_enter Tryz.func118,Tryz.ntmps118
 go_wp2
 go_loopg [13] (q.blocks.length) (fun g v13 wr=>∃j:Nat,j<=q.blocks.length/\g+j=q.blocks.length/\v13=.int .i64 j/\Below w.heap.size w wr/\Hid (q.misfit=ll q (q.blocks.drop j).flatten))
 case atStart=>exact⟨0,jQ _,rfl,rfl,Below.refl _ _,HM⟩
 case round=>
  obtain⟨j,hj,hgj,rfl,hB,HI⟩:=hrel;by_cases aK:j<q.blocks.length
  ·obtain⟨gb,cb',ad,c,e,FB,Rw,aC,hBk⟩:=FT (hP.below hB) j aK;simp only[Value.slice.injEq,true_and]at e;obtain⟨rfl,rfl⟩:=e;have WQ:Hid (q.misfit=ll q (kt q j 0)):=HI.out.trans (congrArg _ (Lt q j aK));have kZ:=eX j;have cd:∀l∈q.blocks.getD j [],tR q.locals.length nb l:=hq.lines _ (by simp[aK]);have HN:Hid (kt q j (q.blocks.getD j []).length=(q.blocks.drop (j+1)).flatten):=OW q j;have HS:Hid (∀i,i<(q.blocks.getD j []).length->ll q (kt q j i)=if q.fits ((q.blocks.getD j []).getD i aa.nil)=true then ll q (kt q j (i+1))else some ((q.blocks.getD j []).getD i aa.nil).num):=OX q j;generalize q.blocks.getD j []=aI at*;generalize vss.getD j []=vsj at*;go_wp2
   go_loopg [19] (aI.length) (fun g v19 wn=>∃i:Nat,i<=aI.length/\g+i=aI.length/\v19=.int .i64 i/\Below w.heap.size w wn/\Below wr.heap.size wr wn/\Hid (q.misfit=ll q (kt q j i)))
   case atStart=>exact⟨0,jQ _,rfl,rfl,hB,Below.refl _ _,WQ⟩
   case round=>
    obtain⟨i,hi,YN,rfl,hBn,Uz,HJ⟩:=hrel;by_cases Co:i<aI.length
    ·obtain⟨gl,ap,cp,an,cn,rfl,-,AV,Wg,k0,k1,k2,k3,k4,k5,hLA⟩:=FR (hBk.below Uz) i Co;have hS:=HS.out i Co;have hl:=cd (aI.getD i aa.nil) (by simp[Co]);generalize aI.getD i aa.nil=l at*;have zI:Below wr.heap.size wr (wr.alloc (.cells #[.int .i64 (l.num:Nat),.int .i64 (l.op:Nat),.slice ap l.places.length cp,.int .i64 l.number,.int .i64 l.flag,.slice an l.next.length cn] 115)):=(Below.refl _ _).alloc (jC _) _;have Jl:=hBn.trans (zI.mono hBn.size);have UB:=(hP.below Jl);have KF:=Q6 q l nb z a vl _ ap an cp cn _ UB.aI ⟨_,UB.locals⟩ ic hl (hLA.below zI) (E.on Jl);have Cp:(wr.alloc (.cells #[.int .i64 (l.num:Nat),.int .i64 (l.op:Nat),.slice ap l.places.length cp,.int .i64 l.number,.int .i64 l.flag,.slice an l.next.length cn] 115)).cell? ⟨wr.heap.size,0,none⟩=some (.int .i64 (l.num:Nat)):=by simp
     have lx:wr.heap.size<(wr.alloc (.cells #[.int .i64 (l.num:Nat),.int .i64 (l.op:Nat),.slice ap l.places.length cp,.int .i64 l.number,.int .i64 l.flag,.slice an l.next.length cn] 115)).heap.size:=by simp
     cases hf:q.fits l with
     |false=>
      have hx:q.misfit=some l.num:=by rw[HJ.out,hS,hf];rfl
      rw[hf]at KF;clear hf hS HS;go_wp2_with (go_at_call 171;refine KF.mono ?_;rintro e w1 ⟨rfl,av⟩;have RG:=(av.cell (p:=⟨wr.heap.size,0,none⟩) lx).trans Cp)
      go_ret2
      exact kI.some (Jl.trans (av.mono Jl.size)) hx
     |true=>
      have HJ2:Hid (q.misfit=ll q (kt q j (i+1))):=by unfold Hid;rw[HJ.out,hS,hf];rfl
      rw[hf]at KF;clear hf hS HS;go_wp2_with (go_at_call 171;refine KF.mono ?_;rintro e w1 ⟨rfl,av⟩)
      go_roundg (aI.length-(i+1))
      case measure=>omega
      case rel=>exact⟨i+1,by omega,by omega,by go_num,Jl.trans (av.mono Jl.size),(Uz.trans (zI.mono Uz.size)).trans (av.mono (jS Uz.size zI.size)),HJ2⟩
    ·have HI3:Hid (q.misfit=ll q (q.blocks.drop (j+1)).flatten):=by
      unfold Hid;rw[HJ.out,show i=aI.length by omega,HN.out]
     go_wp2
     go_roundg (q.blocks.length-(j+1))
     case measure=>omega
     case rel=>exact⟨j+1,by omega,by omega,by go_num,hBn,HI3⟩
  ·have hx:q.misfit=none:=by rw[HI.out,jT (by omega)];rfl
   go_wp2
   go_ret2
   exact kI.none hB hx
end PrjU
end Go.Proofs.YtmlgajhhnojdjaaGreatDoor

import Derived.Test.YtmlgajhhnojdjaaGreatDoorRAI
namespace Go.Proofs.YtmlgajhhnojdjaaGreatDoor
namespace PrjS
open Go Go.RowKit Sq PrjF PrjG PrjH
def sM (c:UInt8):Bool:= !(c==35)&& !(c==118)&& !(c==102)&& !(c==98)
structure tS (nl nb:Nat)(l:ab):Prop where
 op:l.op<23
 op2:2<=l.op
 places:∀x∈l.places,x.1<nl/\x.2<=3
 cQ:l.places.length=((ag l.op).filter sM).length
 next:∀n∈l.next,n<nb
 ER:l.next.length=((ag l.op).filter (·==98)).length
 flag:0<=l.flag/\l.flag<=1000000000
 number: -1000000000<=l.number/\l.number<=1000000000
theorem tS.mono {nl nl' nb:Nat}{l:ab}(h:tS nl nb l)(hn:nl<=nl'):tS nl' nb l:=
 ⟨h.op,h.op2,fun x hx=>⟨jK (h.places x hx).1 hn,(h.places x hx).2⟩,h.cQ,h.next,h.ER,h.flag,h.number⟩
theorem VI (w:B):((bS w).getD ([],0)).2<=3:=by
 rw[bS];split
 ·simp
 ·repeat (first|(split;simp)|simp)
theorem Dy (w:B): -1000000000<=(dP w).getD 0/\(dP w).getD 0<=1000000000:=by
 cases w with
 |nil=>decide
 |cons c r=>
  rw[dP];split
  ·have:=fX r;cases hd:aA r with
   |none=>simp
   |some n=>
    rw[hd]at this;simp only[Option.getD_some]at this;by_cases hn:n=0
    ·simp[hn]
    ·simp[hn];omega
  ·have:=fX (c::r);constructor<;>omega
theorem eA {ls:List (B×Nat)}{n:B}(h:¬dF ls n<0):(dF ls n).toNat<ls.length:=by
 have:=td ls n 0;change-1<=dF ls n/\dF ls n<_ at this;omega
theorem l7 (ls:List (B×Nat))(nb:Nat):∀(f:B) (ws:List B) (l0 l:ab),cZ ls nb f ws l0=some l->(∀x∈l0.places,x.1<ls.length/\x.2<=3)->(∀n∈l0.next,n<nb)->(0<=l0.flag/\l0.flag<=1000000000)->(-1000000000<=l0.number/\l0.number<=1000000000)->
  l.op=l0.op/\l.num=l0.num/\(∀x∈l.places,x.1<ls.length/\x.2<=3)/\(∀n∈l.next,n<nb)/\l.places.length=l0.places.length+(f.filter sM).length/\l.next.length=l0.next.length+(f.filter (·==98)).length/\(0<=l.flag/\l.flag<=1000000000)/\(-1000000000<=l.number/\l.number<=1000000000)
 |[],ws,l0,l,h,h1,h2,h3,h4=>by
  simp only[cZ,Option.some.injEq]at h;subst h;exact⟨rfl,rfl,h1,h2,rfl,rfl,h3,h4⟩
 |c::f,ws,l0,l,h,h1,h2,h3,h4=>by
  rw[cZ]at h;by_cases c1:c=35\/c=118
  ·rw[jb c1]at h;have ih:=l7 ls nb f (ws.drop 1) _ l h h1 h2 h3 (Dy _);have e1:sM c=false:=by rcases c1 with rfl|rfl<;>rfl
   have e2:(c==98)=false:=by rcases c1 with rfl|rfl<;>rfl
   simpa [List.filter_cons,e1,e2]using ih
  ·rw[ja c1]at h;by_cases c2:c=102
   ·rw[jb c2]at h;have ih:=l7 ls nb f (ws.drop 1) _ l h h1 h2 (fX _) h4;subst c2;have e1:sM 102=false:=rfl;simpa [List.filter_cons,e1]using ih
   ·rw[ja c2]at h;by_cases c3:c=98
    ·rw[jb c3]at h;split at h
     ·cases h
     ·rename_i hn;have hd:=fX (word ws 0);have ih:=l7 ls nb f (ws.drop 1) _ l h h1 (fun n YT=>by
       simp only[List.mem_append,List.mem_singleton]at YT;rcases YT with YT|YT
       ·exact h2 n YT
       ·omega) h3 h4
      subst c3;have e1:sM 98=false:=rfl;obtain⟨i1,i2,i3,i4,i5,i6,i7,i8⟩:=ih;refine⟨i1,i2,i3,i4,by rw[i5];simp[e1],by rw[i6];simp;omega,i7,i8⟩
    ·rw[ja c3]at h;split at h
     ·cases h
     ·rename_i hn;have ih:=l7 ls nb f (ws.drop 1) _ l h (fun x hx=>by
       simp only[List.mem_append,List.mem_singleton]at hx;rcases hx with hx|rfl
       ·exact h1 x hx
       ·exact⟨eA hn,VI _⟩) h2 h3 h4
      simp only[not_or]at c1;have e1:sM c=true:=by simp[sM,c1.1,c1.2,c2,c3]
      have e2:(c==98)=false:=by simp[c3]
      obtain⟨i1,i2,i3,i4,i5,i6,i7,i8⟩:=ih;refine⟨i1,i2,i3,i4,by rw[i5];simp[e1];omega,by rw[i6];simp[e2],i7,i8⟩
theorem Sg {ls:List (B×Nat)}{nb:Nat}{x:Nat×List B}{l:ab}(h:ez ls nb x=some l)(h1:x.1<23)(h2:2<=x.1):tS ls.length nb l:=by
 rw[ez]at h;obtain⟨i1,-,i3,i4,i5,i6,i7,i8⟩:=l7 ls nb _ _ _ _ h (by simp) (by simp) (by simp) (by simp);simp only at i1;exact⟨by rw[i1];exact h1,by rw[i1];exact h2,i3,by rw[i1,i5];simp,i4,by rw[i1,i6];simp,i7,i8⟩
structure Jy (nb:Nat)(q:QP):Prop where
 types:∀x∈q.locals,x.2<=3
 lines:∀b∈q.blocks,∀l∈b,tS q.locals.length nb l
theorem TC {w:B}{n:Nat}(h:gN w=some n):n<4:=by
 have:=(A2 _ _ _ _ h).2.1;simpa [j5]using this
theorem ty_le (w:B):(gN w).getD 0<=3:=by
 cases h:gN w with
 |none=>simp
 |some k=>have:=TC h;simp;omega
theorem oU (nb:Nat):∀(S:List (Nat×List B)) (i:Nat) (q0 q:QP),bc nb S i q0=(q,none)->(∀x∈S,x.1<23)->Jy nb q0->Jy nb q
 |[],i,q0,q,h,_,h0=>by
  simp only[bc,Prod.mk.injEq,and_true]at h;subst h;exact h0
 |x::r,i,q0,q,h,hx,h0=>by
  have hr:∀y∈r,y.1<23:=fun y hy=>hx y (jN _ hy)
  have Jv:=hx x (jM ..);rw[bc]at h;by_cases e0:x.1=0
  ·rw[jb e0]at h;split at h
   ·cases h
   ·refine oU nb r (i+1) _ q h hr ⟨fun y hy=> ?_,fun b hb l hl=>(h0.lines b hb l hl).mono (by simp[QP.addLocal])⟩;simp only[QP.addLocal,List.mem_append,List.mem_singleton]at hy;rcases hy with hy|rfl
    ·exact h0.types y hy
    ·exact ty_le _
  ·rw[ja e0]at h;by_cases e1:x.1=1
   ·rw[jb e1]at h;refine oU nb r (i+1) _ q h hr ⟨h0.types,fun b hb l hl=> ?_⟩;simp only[QP.addBlock,List.mem_append,List.mem_singleton]at hb;rcases hb with hb|rfl
    ·exact h0.lines b hb l hl
    ·cases hl
   ·rw[ja e1]at h;cases hl:ez q0.locals nb x with
    |none=>rw[hl]at h;cases h
    |some l=>
     rw[hl]at h;have ok:=Sg hl Jv (by omega);have ok':tS q0.locals.length nb {l with num:=i}:=⟨ok.op,ok.op2,ok.places,ok.cQ,ok.next,ok.ER,ok.flag,ok.number⟩;refine oU nb r (i+1) _ q h hr ⟨h0.types,fun b hb y hy=> ?_⟩;simp only[QP.addLine,List.mem_append,List.mem_singleton]at hb;rcases hb with hb|rfl
     ·exact h0.lines b (List.dropLast_subset _ hb) y hy
     ·simp only[List.mem_append,List.mem_singleton]at hy;rcases hy with hy|rfl
      ·rw[List.getLastD_eq_getLast?]at hy;cases hq:q0.blocks.getLast? with
       |none=>rw[hq]at hy;simp at hy
       |some b'=>
        rw[hq]at hy;exact h0.lines b' (List.mem_of_getLast? hq) y hy
      ·exact ok'
end PrjS
namespace PrjT
open Go Go.RowKit Sq Aux PrjF PrjG PrjH PrjI PrjJ PrjK PrjL PrjM PrjN PrjO PrjP PrjR PrjS
theorem db {z:Nat}{w:World}{ad:Option Addr}{n c:Nat}{ps:List (Nat×Nat)}(h:w.ownsRow z 119 2 (.slice ad n c) ps.length (bL ps))(j:Nat)(hj:j<ps.length):
  ∃g,ad=some ⟨g,0,none⟩/\n=ps.length/\ps.length<=c/\g<w.heap.size/\w.cell? ⟨g,j*2,none⟩=some (.int .i64 ((ps.getD j (0,0)).1:Nat))/\w.cell? ⟨g,j*2+1,none⟩=some (.int .i64 ((ps.getD j (0,0)).2:Nat)):=by
 obtain⟨g,cap,hv,hc,hg,aD⟩:=dK h (by omega);simp only[Value.slice.injEq]at hv;obtain⟨rfl,rfl,rfl⟩:=hv;have key:∀i,i<2->w.cell? ⟨g,j*2+i,none⟩=(BE (ps.getD j (0,0)))[i]?:=fun i hi=>by
  rw[aD _ (by omega),bL,jn BE 2 (fun _=>rfl) ps j i hi];simp[hj]
 exact⟨g,rfl,rfl,hc,hg,key 0 (by decide),key 1 (by decide)⟩
theorem Gl (q:QP)(f:B)(ps:List (Nat×Nat))(k:Nat)(hk:k<ps.length):q.fK f (ps.drop k) k=(q.bK (ps.getD k (0,0)) (f.getD k 0)&&q.fK f (ps.drop (k+1)) (k+1)):=by
 rw[jE hk,QP.fK];simp[hk]
theorem OC {q:QP}{x:Nat×Nat}{t:Nat}(h:q.kind x=some t):q.bt x=t:=by
 rw[QP.kind]at h;rw[QP.bt];by_cases cg:x.2=1\/x.2=2
 ·rw[jb cg]at h;rw[jb (by omega)];split at h<;>simp_all
 ·rw[ja cg]at h;by_cases h3:x.2=3
  ·rw[jb h3]at h;rw[jb (by omega)];split at h<;>simp_all
  ·rw[ja h3]at h;rw[ja (by omega)];simpa using h
theorem Nd {a b:Bool}(h:a=b):Ending.returned (.bool a)=.returned (.bool b):=by rw[h]
theorem filter_le {f:B}:(f.filter sM).length<=f.length:=List.length_filter_le ..
set_option maxRecDepth 20000 in
set_option maxHeartbeats 1000000 in
theorem Q7 (q:QP)(l:ab)(nb z a:Nat)(v u:Value)(ap an:Option Addr)(cp cn:Nat)(w:World)(hp:w.heap[a]?=some (.cells #[v,u] 110 (0,0)))(hv:mc w v q.locals)(ie:q.locals.length<=4000)(hl:tS q.locals.length nb l)
  (hA:bq z w l (.slice ap l.places.length cp) (.slice an l.next.length cn)) (E:Env w):
  Calls Tryz.prog 171 #[.pointer (some ⟨a,0,none⟩),.agg #[.int .i64 (l.num:Nat),.int .i64 (l.op:Nat),.slice ap l.places.length cp,.int .i64 l.number,.int .i64 l.flag,.slice an l.next.length cn]] w fun e w'=>e=.returned (.bool (q.fits l))/\Below w.heap.size w w':=by
 have aY:Below w.heap.size w (w.alloc (.cells #[.int .i64 (l.num:Nat),.int .i64 (l.op:Nat),.slice ap l.places.length cp,.int .i64 l.number,.int .i64 l.flag,.slice an l.next.length cn] 115)):=(Below.refl _ _).alloc (jC _) _;have bV:(w.alloc (.cells #[.int .i64 (l.num:Nat),.int .i64 (l.op:Nat),.slice ap l.places.length cp,.int .i64 l.number,.int .i64 l.flag,.slice an l.next.length cn] 115)).heap[w.heap.size]?=some (.cells #[.int .i64 (l.num:Nat),.int .i64 (l.op:Nat),.slice ap l.places.length cp,.int .i64 l.number,.int .i64 l.flag,.slice an l.next.length cn] 115 (0,0)):=jD;have Cs:=pY (E.on aY) l.op hl.op;have aL:=lt_of_heap hp;have Vb:=yu l.op hl.op;have gM:l.places.length<=(ag l.op).length:=by rw[hl.cQ];exact filter_le
 have Ey:=hl.places;have hpm:l.op=12->l.places.length=2:=fun e=>by rw[hl.cQ,e];rfl
 have HF:Hid (q.fK (ag l.op) l.places 0=q.fK (ag l.op) (l.places.drop 0) 0):=rfl;have KK:=fun(x:Nat×Nat) (hx:x.1<q.locals.length) (w':World) (hb:Below w.heap.size w w')=>vK q x v u a w' (by rw[hb.block a aL];exact hp) (hv.below hb) ie hx
 have KS:=fun(x y:Nat×Nat) (hx:x.1<q.locals.length) (hy:y.1<q.locals.length) (w':World) (hb:Below w.heap.size w w')=>E7 q x y v u a w' (by rw[hb.block a aL];exact hp) (hv.below hb) ie hx hy
 have hq:q.fits l=(q.fK (ag l.op) l.places 0&&(!(l.op==12)||q.bt (l.places.getD 0 (0,0))==q.bt (l.places.getD 1 (0,0)))):=rfl;have HQ:Hid (_=_):=hq;have ax:=hl.op;clear hq hl;have Rj:=aY;generalize hwA:(w.alloc (.cells #[.int .i64 (l.num:Nat),.int .i64 (l.op:Nat),.slice ap l.places.length cp,.int .i64 l.number,.int .i64 l.flag,.slice an l.next.length cn] 115))=wA at Rj bV Cs;go_enter Tryz.func171,Tryz.ntmps171
 subst hwA;go_wp2
 go_loopw [18] (fun i wr=>∃k:Nat,k<=l.places.length/\i=.int .i64 k/\Below (w.heap.size+1) (w.alloc (.cells #[.int .i64 (l.num:Nat),.int .i64 (l.op:Nat),.slice ap l.places.length cp,.int .i64 l.number,.int .i64 l.flag,.slice an l.next.length cn] 115)) wr/\Hid (q.fK (ag l.op) l.places 0=q.fK (ag l.op) (l.places.drop k) k)) (fun i _=>l.places.length-(intOf i).toNat)
 case atStart=>exact⟨0,jQ _,rfl,Below.refl _ _,HF⟩
 case round=>
  obtain⟨k,hk,rfl,Jn,HI⟩:=hrel;have hB:Below w.heap.size w wr:=aY.trans (Jn.mono (by omega));have sc:wr.heap[w.heap.size]?=_:=(Jn.block w.heap.size (by omega)).trans bV;by_cases hlt':k<l.places.length
  ·obtain⟨gp,rfl,-,qm,XD,c1,c2⟩:=db (ay hA.places hB) k hlt';have hx:=(Ey (l.places.getD k (0,0)) (by simp[hlt'])).1;have Wj:k<(ag l.op).length:=by omega
   have HS:Hid (_=_):=HI.out.trans (Gl q (ag l.op) l.places k hlt');have hc:Hid ((ag l.op).getD k 0=(ag l.op)[k]):=by unfold Hid;simp[Wj]
   generalize l.places.getD k (0,0)=x at*;have kf:Below wr.heap.size wr (wr.alloc (.cells #[.int .i64 (x.1:Nat),.int .i64 (x.2:Nat)] 119)):=(Below.refl _ _).alloc (jC _) _;have KX:=KK x hx _ (hB.trans (kf.mono hB.size));have KI:=fun w'=>K8 (q.bt x) ((ag l.op)[k]) w'
   have De:∀w1,Below (wr.alloc (.cells #[.int .i64 (x.1:Nat),.int .i64 (x.2:Nat)] 119)).heap.size (wr.alloc (.cells #[.int .i64 (x.1:Nat),.int .i64 (x.2:Nat)] 119)) w1->Below (w.heap.size+1) (w.alloc (.cells #[.int .i64 (l.num:Nat),.int .i64 (l.op:Nat),.slice (some ⟨gp,0,none⟩) l.places.length cp,.int .i64 l.number,.int .i64 l.flag,.slice an l.next.length cn] 115)) w1:=fun w1 aw=>by
    have h0:w.heap.size+1<=wr.heap.size:=by have:=Jn.size;simpa using this
    exact(Jn.trans (kf.mono h0)).trans (aw.mono (jS h0 kf.size))
   cases hkd:q.kind x with
   |none=>
    have XA:q.fits l=false:=by rw[HQ.out,HS.out,QP.bK,hkd];rfl
    rw[hkd]at KX;clear hkd;go_wp2_with (go_at_call 207;refine KX.mono ?_;rintro e w1 ⟨rfl,aw⟩)
    go_ret
    exact⟨Nd XA.symm,(aY.trans ((De _ aw).mono (by omega)))⟩
   |some t=>
    have hkv:=OC hkd;rw[hkd]at KX;rw[hkv]at KX KI;cases hik:gF t ((ag l.op)[k])with
    |false=>
     have XA:q.fits l=false:=by rw[HQ.out,HS.out,QP.bK,hkd,hc.out];simp only;rw[hik];rfl
     rw[hik]at KI;clear hkd hik hkv;go_wp2_with (first|(go_at_call 207;refine KX.mono ?_;rintro e w1 ⟨rfl,aw⟩)|(go_at_call 208;refine(KI _).mono ?_;rintro e w2 ⟨rfl,rfl⟩))
     go_ret
     exact⟨Nd XA.symm,(aY.trans ((De _ aw).mono (by omega)))⟩
    |true=>
     have WR:Hid (q.fK (ag l.op) l.places 0=q.fK (ag l.op) (l.places.drop (k+1)) (k+1)):=by
      unfold Hid;rw[HS.out,QP.bK,hkd,hc.out];simp only;rw[hik];rfl
     rw[hik]at KI;clear hkd hik hkv;go_wp2_with (first|(go_at_call 207;refine KX.mono ?_;rintro e w1 ⟨rfl,aw⟩)|(go_at_call 208;refine(KI _).mono ?_;rintro e w2 ⟨rfl,rfl⟩))
     go_roundw
     case rel=>exact⟨k+1,by omega,by go_num,De _ aw,WR⟩
     case measure=>simp[intOf];omega
  ·have MT:Hid (q.fits l=(!(l.op==12)||q.bt (l.places.getD 0 (0,0))==q.bt (l.places.getD 1 (0,0)))):=by
    unfold Hid;rw[HQ.out,HI.out,jT (by omega)];rfl
   have r1:wr.cell? ⟨w.heap.size,1,none⟩=some (.int .i64 (l.op:Nat)):=by rw[cell_of_heap sc];rfl
   have r2:wr.cell? ⟨w.heap.size,2,none⟩=some (.slice ap l.places.length cp):=by rw[cell_of_heap sc];rfl
   by_cases cg:l.op=12
   ·have h2:=hpm cg;obtain⟨gp,rfl,-,qm,XD,c1,c2⟩:=db (ay hA.places hB) 0 (by omega);obtain⟨gp',e,-,-,-,c3,c4⟩:=db (ay hA.places hB) 1 (by omega);simp only[Option.some.injEq,Addr.mk.injEq,and_true]at e;subst e;have Jv:=(Ey (l.places.getD 0 (0,0)) (by simp[h2])).1;have zo:=(Ey (l.places.getD 1 (0,0)) (by simp[h2])).1;have KX:=fun w' hb=>KS _ _ Jv zo w' hb
    have xS:q.fits l=(q.bt (l.places.getD 0 (0,0))==q.bt (l.places.getD 1 (0,0))):=by rw[MT.out,cg];rfl
    have hopb:(((l.op:Nat):Int) !=12)=false:=by rw[cg];rfl
    have d1:wr.cell? ⟨gp,0,none⟩=some (.int .i64 ((l.places.getD 0 (0,0)).1:Nat)):=c1;have d2:wr.cell? ⟨gp,1,none⟩=some (.int .i64 ((l.places.getD 0 (0,0)).2:Nat)):=c2;have d3:wr.cell? ⟨gp,2,none⟩=some (.int .i64 ((l.places.getD 1 (0,0)).1:Nat)):=c3;have d4:wr.cell? ⟨gp,3,none⟩=some (.int .i64 ((l.places.getD 1 (0,0)).2:Nat)):=c4;clear c1 c2 c3 c4 MT HQ HI HF;have HFI:Hid (_=_):=xS;clear xS;generalize l.places.getD 0 (0,0)=x at*;generalize l.places.getD 1 (0,0)=y at*;generalize (q.bt x==q.bt y)=bb at*;rw[h2]at r2;have KXd:=KX wr.drew ⟨hB.os,hB.tape,hB.output,hB.size,hB.block⟩;go_wp2
    go_region_with (go_at_call 209;refine KXd.mono ?_;rintro e w1 ⟨rfl,aw⟩)
    all_goals (try go_wp2)
    all_goals
     go_ret
     exact⟨Nd HFI.out.symm,hB.trans ((show Below wr.heap.size wr w1 from⟨aw.os,aw.tape,aw.output,aw.size,aw.block⟩).mono hB.size)⟩
   ·have hopb:(((l.op:Nat):Int) !=12)=true:=by simp;omega
    have xS:q.fits l=true:=by rw[MT.out];simp[cg]
    have HFI:Hid (_=_):=xS;clear MT HQ HI HF xS;go_wp2
    go_quiet (fail)
    go_wp2
    go_ret
    exact⟨Nd HFI.out.symm,below_drewN hB _⟩
end PrjT
namespace FlwB
open Go Go.RowKit Sq Aux PrjF PrjG PrjJ PrjK PrjL PrjM PrjN PrjO PrjP PrjR PrjT FlwA
def aq (s:List Nat):List Value:=s.map fun n=> .int .u8 (n:Nat)
def aX (w:World)(b:Nat)(s:List Nat):Prop:=s.length=24/\w.heap[b]?=some (.cells (aq s).toArray 209 (0,0))
section
variable {w w':World} {b:Nat} {s:List Nat}
theorem aX.lt (h:aX w b s):b<w.heap.size:=lt_of_heap h.2
theorem aX.below {z:Nat}(h:aX w b s)(hb:Below z w w')(hz:b<z):aX w' b s:=⟨h.1,by rw[hb.block b hz];exact h.2⟩
theorem aX.cell (h:aX w b s)(k:Nat)(hk:k<24):w.cell? ⟨b,k,none⟩=some (.int .u8 (s.getD k 0:Nat)):=by
 rw[cell_of_heap h.2];have:k<s.length:=by rw[h.1];exact hk
 simp[aq,this]
theorem aX.frozen (h:aX w b s)(k:Nat):w.frozen? ⟨b,k,none⟩=false:=frozen_of_heap h.2 k
theorem aX.set (h:aX w b s)(k n:Nat):aX (w.setCell ⟨b,k,none⟩ (.int .u8 (n:Nat))) b (s.set k n):=by
 refine⟨by simpa using h.1,?_⟩;rw[Go.Proofs.YtmlgajhhnojdjaaGreatDoor.Aux.heap_setCell_same h.2 k];congr 2;simp[aq,List.map_set]
end
def gS (may:Nat)(ps:List (Nat×Nat))(s:List Nat):List Nat:=ps.foldl (fun s x=>s.set (ah x) may) s
def dC (ps:List (Nat×Nat))(s:List Nat):List Nat:=ps.foldl (fun s x=>s.set (ah x) (if x.2=3 then 8 else 1)) s
theorem Pq (may:Nat)(ps:List (Nat×Nat))(k:Nat)(hk:k<ps.length)(s:List Nat):gS may (ps.drop k) s=gS may (ps.drop (k+1)) (s.set (ah (ps.getD k (0,0))) may):=by
 rw[jE hk];have:ps.getD k (0,0)=ps[k]:=by simp[List.getD_eq_getElem?_getD,hk]
 rw[this];rfl
theorem Mb (ps:List (Nat×Nat))(k:Nat)(hk:k<ps.length)(s:List Nat):dC (ps.drop k) s=dC (ps.drop (k+1)) (s.set (ah (ps.getD k (0,0))) (if(ps.getD k (0,0)).2=3 then 8 else 1)):=by
 rw[jE hk];have:ps.getD k (0,0)=ps[k]:=by simp[List.getD_eq_getElem?_getD,hk]
 rw[this];rfl
set_option maxRecDepth 20000 in
set_option maxHeartbeats 1000000 in
theorem zX (may b z n c:Nat)(ad:Option Addr)(ps:List (Nat×Nat))(s:List Nat)(w:World)(hs:aX w b s)(hp:bP z w (.slice ad n c) ps)(hx:∀x∈ps,x.1<12)(_hm:may<16):
  Calls Tryz.prog 177 #[.pointer (some ⟨b,0,none⟩),.int .u8 (may:Nat),.slice ad n c] w fun e w'=>e=.returned (.tuple #[])/\aX w' b (gS may ps s)/\bw b w w':=by
 have hn:n=ps.length:=by
  obtain⟨ad',c',e⟩:=ca hp;simp only[Value.slice.injEq]at e;exact e.2.1
 have hlen:ps.length<=maxLen:=by
  rcases hp.2 with⟨-,h⟩|⟨g,cap,cur,-,-,-,h1,h2,-⟩
  ·omega
  ·omega
 unfold maxLen at hlen;subst hn;have HF:Hid (gS may ps s=gS may (ps.drop 0) s):=rfl;go_enter Tryz.func177,Tryz.ntmps177
 go_wp2
 go_loopg [10] (ps.length) (fun g v10 wr=>∃(k:Nat) (t:List Nat),k<=ps.length/\g+k=ps.length/\v10=.int .i64 k/\aX wr b t/\bw b w wr/\Hid (gS may ps s=gS may (ps.drop k) t))
 case atStart=>exact⟨0,s,jQ _,rfl,rfl,hs,bw.refl _ _,HF⟩
 case round=>
  obtain⟨k,t,hk,GI,rfl,hS,hT,HI⟩:=hrel;by_cases aL:k<ps.length
  ·have GQ:bP z wr (.slice ad ps.length c) ps:=gi hp fun g hg=>hT.block g (hp.lt g hg).2 fun x=>by
    subst x;exact au hp hs.2 (by decide) hg
   obtain⟨gp,rfl,-,qm,XD,c1,c2⟩:=db GQ k aL;have zo:=hx (ps.getD k (0,0)) (by simp[aL]);have HS:Hid (_=_):=HI.out.trans (Pq may ps k aL t);generalize ps.getD k (0,0)=x at*;have yV:ah x<24:=by unfold ah;split<;>omega
   have RQ:(ah x:Int)<24:=by omega
   have kf:Below wr.heap.size wr (wr.alloc (.cells #[.int .i64 (x.1:Nat),.int .i64 (x.2:Nat)] 119)):=(Below.refl _ _).alloc (jC _) _;have GL:=hS.lt;have KS:=kU x (wr.alloc (.cells #[.int .i64 (x.1:Nat),.int .i64 (x.2:Nat)] 119)).drew (by omega);go_wp2
   go_region_with (go_at_call 62;refine KS.mono ?_;rintro e w1 ⟨rfl,aw⟩;have oN:Below wr.heap.size wr w1:=(kf.trans ((⟨aw.os,aw.tape,aw.output,aw.size,aw.block⟩:Below _ (wr.alloc (.cells #[.int .i64 (x.1:Nat),.int .i64 (x.2:Nat)] 119)) w1).mono kf.size));have sI:=hS.below oN GL;have s1:=sI.cell (ah x) yV;have s2:=sI.frozen (ah x))
   all_goals go_wp2_with fail
   all_goals
    go_roundg (ps.length-(k+1))
    case measure=>omega
    case rel=>exact⟨k+1,t.set (ah x) may,by omega,by omega,by go_num,sI.set _ may,(hT.on oN).setCell _ _,HS.out⟩
  ·have hx:gS may ps s=t:=by rw[HI.out,jT (by omega)];rfl
   go_wp2
   go_end0
   exact⟨rfl,by rw[hx];exact hS,hT⟩
set_option maxRecDepth 20000 in
set_option maxHeartbeats 1000000 in
theorem BR (b z n c:Nat)(ad:Option Addr)(ps:List (Nat×Nat))(s:List Nat)(w:World)(hs:aX w b s)(hp:bP z w (.slice ad n c) ps)(hx:∀x∈ps,x.1<12):
  Calls Tryz.prog 174 #[.pointer (some ⟨b,0,none⟩),.slice ad n c] w fun e w'=>e=.returned (.tuple #[])/\aX w' b (dC ps s)/\bw b w w':=by
 have hn:n=ps.length:=by
  obtain⟨ad',c',e⟩:=ca hp;simp only[Value.slice.injEq]at e;exact e.2.1
 have hlen:ps.length<=maxLen:=by
  rcases hp.2 with⟨-,h⟩|⟨g,cap,cur,-,-,-,h1,h2,-⟩
  ·omega
  ·omega
 unfold maxLen at hlen;subst hn;have HF:Hid (dC ps s=dC (ps.drop 0) s):=rfl;go_enter Tryz.func174,Tryz.ntmps174
 go_wp2
 go_loopg [8] (ps.length) (fun g v8 wr=>∃(k:Nat) (t:List Nat),k<=ps.length/\g+k=ps.length/\v8=.int .i64 k/\aX wr b t/\bw b w wr/\Hid (dC ps s=dC (ps.drop k) t))
 case atStart=>exact⟨0,s,jQ _,rfl,rfl,hs,bw.refl _ _,HF⟩
 case round=>
  obtain⟨k,t,hk,GI,rfl,hS,hT,HI⟩:=hrel;by_cases aL:k<ps.length
  ·have GQ:bP z wr (.slice ad ps.length c) ps:=gi hp fun g hg=>hT.block g (hp.lt g hg).2 fun x=>by
    subst x;exact au hp hs.2 (by decide) hg
   obtain⟨gp,rfl,-,qm,XD,c1,c2⟩:=db GQ k aL;have zo:=hx (ps.getD k (0,0)) (by simp[aL]);have HS:Hid (_=_):=HI.out.trans (Mb ps k aL t);generalize ps.getD k (0,0)=x at*;have yV:ah x<24:=by unfold ah;split<;>omega
   have RQ:(ah x:Int)<24:=by omega
   have kf:Below wr.heap.size wr (wr.alloc (.cells #[.int .i64 (x.1:Nat),.int .i64 (x.2:Nat)] 119)):=(Below.refl _ _).alloc (jC _) _;have GL:=hS.lt;have KS:=kU x (wr.alloc (.cells #[.int .i64 (x.1:Nat),.int .i64 (x.2:Nat)] 119)).drew (by omega);by_cases h3:x.2=3
   ·have lJ:(((x.2:Nat):Int)==3)=true:=by rw[h3];rfl
    have HP:Hid (x.2=3):=h3;clear h3;go_wp2
    go_region_with (go_at_call 62;refine KS.mono ?_;rintro e w1 ⟨rfl,aw⟩;have oN:Below wr.heap.size wr w1:=(kf.trans ((⟨aw.os,aw.tape,aw.output,aw.size,aw.block⟩:Below _ (wr.alloc (.cells #[.int .i64 (x.1:Nat),.int .i64 (x.2:Nat)] 119)) w1).mono kf.size));have sI:=hS.below oN GL;have s1:=sI.cell (ah x) yV;have s2:=sI.frozen (ah x))
    all_goals go_wp2_with fail
    all_goals
     go_roundg (ps.length-(k+1))
     case measure=>omega
     case rel=>exact⟨k+1,t.set (ah x) 8,by omega,by omega,by go_num,sI.set _ 8,(hT.on oN).setCell _ _,by unfold Hid;rw[HS.out,jb HP.out]⟩
   ·have lJ:(((x.2:Nat):Int)==3)=false:=by rw[jZ];omega
    have HP:Hid (¬x.2=3):=h3;clear h3;go_wp2
    go_region_with (go_at_call 62;refine KS.mono ?_;rintro e w1 ⟨rfl,aw⟩;have oN:Below wr.heap.size wr w1:=(kf.trans ((⟨aw.os,aw.tape,aw.output,aw.size,aw.block⟩:Below _ (wr.alloc (.cells #[.int .i64 (x.1:Nat),.int .i64 (x.2:Nat)] 119)) w1).mono kf.size));have sI:=hS.below oN GL;have s1:=sI.cell (ah x) yV;have s2:=sI.frozen (ah x))
    all_goals go_wp2_with fail
    all_goals
     go_roundg (ps.length-(k+1))
     case measure=>omega
     case rel=>exact⟨k+1,t.set (ah x) 1,by omega,by omega,by go_num,sI.set _ 1,(hT.on oN).setCell _ _,by unfold Hid;rw[HS.out,ja HP.out]⟩
  ·have hx:dC ps s=t:=by rw[HI.out,jT (by omega)];rfl
   go_wp2
   go_end0
   exact⟨rfl,by rw[hx];exact hS,hT⟩
end FlwB
namespace FlwC
open Go Go.RowKit Sq Aux PrjF PrjG PrjJ PrjK PrjL PrjM PrjN PrjO PrjP PrjR PrjT FlwA FlwB
def jv (fit v:Nat):Bool:= !(v&&&(15-fit)==0)
theorem OE:∀v:Nat,v<16->((bits .andNot .u8 (v:Int) 2 !=0)=jv 2 v)/\((bits .andNot .u8 (v:Int) 6 !=0)=jv 6 v)/\((bits .andNot .u8 (v:Int) 10 !=0)=jv 10 v):=by decide
theorem Hh {v fit:Nat}(hv:v<16)(mr:fit=2\/fit=6\/fit=10):(bits .andNot .u8 (v:Int) (fit:Int) !=0)=jv fit v:=by
 obtain⟨h1,h2,h3⟩:=OE v hv;rcases mr with rfl|rfl|rfl
 ·exact h1
 ·exact h2
 ·exact h3
def bA (fit:Nat)(ps:List (Nat×Nat))(s:List Nat):Bool:=ps.any fun x=>jv fit (s.getD (ah x) 0)
theorem Lf (fit:Nat)(ps:List (Nat×Nat))(k:Nat)(hk:k<ps.length)(s:List Nat):bA fit (ps.drop k) s=(jv fit (s.getD (ah (ps.getD k (0,0))) 0)||bA fit (ps.drop (k+1)) s):=by
 rw[jE hk];have:ps.getD k (0,0)=ps[k]:=by simp[List.getD_eq_getElem?_getD,hk]
 rw[this];rfl
set_option maxRecDepth 20000 in
set_option maxHeartbeats 1000000 in
theorem oR (fit b z n c:Nat)(ad:Option Addr)(ps:List (Nat×Nat))(s:List Nat)(w:World)(hs:aX w b s)(hp:bP z w (.slice ad n c) ps)(hx:∀x∈ps,x.1<12)(hv:∀k,s.getD k 0<16)(mr:fit=2\/fit=6\/fit=10):
  Calls Tryz.prog 219 #[.pointer (some ⟨b,0,none⟩),.int .u8 (fit:Nat),.slice ad n c] w fun e w'=>e=.returned (.bool (bA fit ps s))/\Below w.heap.size w w':=by
 have hn:n=ps.length:=by
  obtain⟨ad',c',e⟩:=ca hp;simp only[Value.slice.injEq]at e;exact e.2.1
 have hlen:ps.length<=maxLen:=by
  rcases hp.2 with⟨-,h⟩|⟨g,cap,cur,-,-,-,h1,h2,-⟩
  ·omega
  ·omega
 unfold maxLen at hlen;subst hn;have HF:Hid (bA fit ps s=bA fit (ps.drop 0) s):=rfl;go_enter Tryz.func219,Tryz.ntmps219
 go_wp2
 go_loopg [11] (ps.length) (fun g v10 wr=>∃k:Nat,k<=ps.length/\g+k=ps.length/\v10=.int .i64 k/\Below w.heap.size w wr/\Hid (bA fit ps s=bA fit (ps.drop k) s))
 case atStart=>exact⟨0,jQ _,rfl,rfl,Below.refl _ _,HF⟩
 case round=>
  obtain⟨k,hk,GI,rfl,hB,HI⟩:=hrel;by_cases aL:k<ps.length
  ·obtain⟨gp,rfl,-,qm,XD,c1,c2⟩:=db (ay hp hB) k aL;have zo:=hx (ps.getD k (0,0)) (by simp[aL]);have HS:Hid (_=_):=HI.out.trans (Lf fit ps k aL s);generalize ps.getD k (0,0)=x at*;have yV:ah x<24:=by unfold ah;split<;>omega
   have RQ:(ah x:Int)<24:=by omega
   have kf:Below wr.heap.size wr (wr.alloc (.cells #[.int .i64 (x.1:Nat),.int .i64 (x.2:Nat)] 119)):=(Below.refl _ _).alloc (jC _) _;have GL:=hs.lt;have KS:=kU x (wr.alloc (.cells #[.int .i64 (x.1:Nat),.int .i64 (x.2:Nat)] 119)).drew (by omega);have hvk:=hv (ah x);obtain⟨v,Ya⟩:∃v,v=s.getD (ah x) 0:=⟨_,rfl⟩;rw[<-Ya]at hvk HS;have HV:Hid (s.getD (ah x) 0=v):=Ya.symm;clear Ya;cases hl:jv fit v
   ·have UM:(bits .andNot .u8 (v:Int) (fit:Int) !=0)=false:=by rw[Hh hvk mr];exact hl
    have HL:Hid (_=_):=hl;clear hl;go_upto_region 4 with fail
    go_region_with (go_at_call 62;refine KS.mono ?_;rintro e w1 ⟨rfl,aw⟩;have oN:Below wr.heap.size wr w1:=(kf.trans ((⟨aw.os,aw.tape,aw.output,aw.size,aw.block⟩:Below _ (wr.alloc (.cells #[.int .i64 (x.1:Nat),.int .i64 (x.2:Nat)] 119)) w1).mono kf.size));have sI:=(hs.below hB GL).below oN (jK GL hB.size);have s1:=(sI.cell (ah x) yV).trans (by rw[HV.out]))
    all_goals go_wp2_with fail
    all_goals
     go_roundg (ps.length-(k+1))
     case measure=>omega
     case rel=>exact⟨k+1,by omega,by omega,by go_num,hB.trans (oN.mono hB.size),by unfold Hid;rw[HS.out,HL.out];rfl⟩
   ·have UM:(bits .andNot .u8 (v:Int) (fit:Int) !=0)=true:=by rw[Hh hvk mr];exact hl
    have HL:Hid (_=_):=hl;clear hl;go_upto_region 4 with fail
    go_region_with (go_at_call 62;refine KS.mono ?_;rintro e w1 ⟨rfl,aw⟩;have oN:Below wr.heap.size wr w1:=(kf.trans ((⟨aw.os,aw.tape,aw.output,aw.size,aw.block⟩:Below _ (wr.alloc (.cells #[.int .i64 (x.1:Nat),.int .i64 (x.2:Nat)] 119)) w1).mono kf.size));have sI:=(hs.below hB GL).below oN (jK GL hB.size);have s1:=(sI.cell (ah x) yV).trans (by rw[HV.out]))
    all_goals go_wp2_with fail
    all_goals
     go_ret
     exact⟨by rw[HS.out,HL.out];rfl,hB.trans (oN.mono hB.size)⟩
  ·have hx:bA fit ps s=false:=by rw[HI.out,jT (by omega)];rfl
   go_wp2
   go_ret
   exact⟨by rw[hx];rfl,hB⟩
end FlwC
namespace FlwD
open Go Go.RowKit Sq Aux PrjF PrjG PrjJ PrjK PrjL PrjM PrjN PrjO PrjP PrjR PrjT FlwA FlwB FlwC
def lA (x:Nat×Nat)(s:List Nat):Bool:=x.2==3&&bA 10 [x] s
def gU (q:QP)(x:Nat×Nat)(s:List Nat):Bool:=if q.bt x=3 then bA 6 [x] s else bA 2 (QP.ae q x) s
def dn (q:QP)(x:Nat×Nat)(s:List Nat):Nat:=if q.bt x=3 then s.getD (ah x) 0 else 2
theorem iI (W:World)(x:Nat×Nat){n:Nat}(hn:W.heap.size=n):bP n (W.alloc (.cells #[.int .i64 (x.1:Nat),.int .i64 (x.2:Nat)] 119)) (.slice (some ⟨n,0,none⟩) 1 1) [x]:=by
 subst hn;exact mJ W [x] (by simp)
theorem Pm (W:World)(x y:Nat×Nat){n:Nat}(hn:W.heap.size=n):bP n (W.alloc (.cells #[.int .i64 (x.1:Nat),.int .i64 (x.2:Nat),.int .i64 (y.1:Nat),.int .i64 (y.2:Nat)] 119)) (.slice (some ⟨n,0,none⟩) 2 2) [x,y]:=by
 subst hn;exact mJ W [x,y] (by simp)
theorem cD {q:QP}{x:Nat×Nat}{n:Nat}(h:x.1<n):∀y∈QP.ae q x,y.1<n:=by
 intro y hy;unfold QP.ae at hy;split at hy
 ·simp only[List.mem_cons,List.not_mem_nil,or_false]at hy;rcases hy with rfl|rfl<;>exact h
 ·simp only[List.mem_singleton]at hy;subst hy;exact h
set_option maxRecDepth 20000 in
set_option maxHeartbeats 1000000 in
theorem BM (b:Nat)(x:Nat×Nat)(s:List Nat)(w:World)(hs:aX w b s)(hx:x.1<12)(hv:∀k,s.getD k 0<16):
  Calls Tryz.prog 220 #[.pointer (some ⟨b,0,none⟩),.agg #[.int .i64 (x.1:Nat),.int .i64 (x.2:Nat)]] w fun e w'=>e=.returned (.bool (lA x s))/\Below w.heap.size w w':=by
 have aY:Below w.heap.size w (w.alloc (.cells #[.int .i64 (x.1:Nat),.int .i64 (x.2:Nat)] 119)):=(Below.refl _ _).alloc (jC _) _;have Wc:=aY.alloc aY.size (.cells #[.int .i64 (x.1:Nat),.int .i64 (x.2:Nat)] 119);have KL:=oR 10 b _ 1 1 _ [x] s _ (hs.below Wc hs.lt) (iI (w.alloc (.cells #[.int .i64 (x.1:Nat),.int .i64 (x.2:Nat)] 119)) x (n:=w.heap.size+1) (by simp)) (fun y hy=>by simp only[List.mem_singleton]at hy;subst hy;exact hx) hv (by simp);by_cases h3:x.2=3
 ·have b3:(((x.2:Nat):Int)==3)=true:=by rw[h3];rfl
  have hr:lA x s=bA 10 [x] s:=by rw[lA,h3];rfl
  rw[hr];clear h3 hr;generalize bA 10 [x] s=r at*;go_enter Tryz.func220,Tryz.ntmps220
  go_wp2_with (go_at_call 219;refine KL.mono ?_;rintro e w1 ⟨rfl,aw⟩)
  go_ret
  exact⟨rfl,Wc.trans (aw.mono Wc.size)⟩
 ·have b3:(((x.2:Nat):Int)==3)=false:=by rw[jZ];omega
  have hr:lA x s=false:=by rw[lA,show(x.2==3)=false by simpa using h3];rfl
  rw[hr];clear h3 hr KL;go_enter Tryz.func220,Tryz.ntmps220
  go_wp2
  go_ret
  exact⟨rfl,aY⟩
set_option maxRecDepth 20000 in
set_option maxHeartbeats 1000000 in
theorem PS (q:QP)(b:Nat)(x:Nat×Nat)(s:List Nat)(v u:Value)(a:Nat)(w:World)(hp:w.heap[a]?=some (.cells #[v,u] 110 (0,0)))(hl:mc w v q.locals)(ie:q.locals.length<=4000)(Yb:x.1<q.locals.length)(hs:aX w b s)(hx:x.1<12)(hv:∀k,s.getD k 0<16):
  Calls Tryz.prog 221 #[.pointer (some ⟨b,0,none⟩),.pointer (some ⟨a,0,none⟩),.agg #[.int .i64 (x.1:Nat),.int .i64 (x.2:Nat)]] w fun e w'=>e=.returned (.bool (gU q x s))/\Below w.heap.size w w':=by
 have aY:Below w.heap.size w (w.alloc (.cells #[.int .i64 (x.1:Nat),.int .i64 (x.2:Nat)] 119)):=(Below.refl _ _).alloc (jC _) _;have aL:=lt_of_heap hp;have Wr:∀w',Below w.heap.size w w'->w'.heap[a]?=some (.cells #[v,u] 110 (0,0)):=fun w' hb=>by rw[hb.block a aL];exact hp
 have KK:=vK q x v u a _ (Wr _ aY) (hl.below aY) ie Yb;have KH:=fun w' (hb:Below w.heap.size w w')=>ef q x v u a w' (Wr _ hb) (hl.below hb) Yb
 have c0:∀w',Below (w.alloc (.cells #[.int .i64 (x.1:Nat),.int .i64 (x.2:Nat)] 119)).heap.size (w.alloc (.cells #[.int .i64 (x.1:Nat),.int .i64 (x.2:Nat)] 119)) w'->w'.cell? ⟨w.heap.size,0,none⟩=some (.int .i64 (x.1:Nat))/\w'.cell? ⟨w.heap.size,1,none⟩=some (.int .i64 (x.2:Nat)):=fun w' hb=>
  ⟨(hb.cell (p:=⟨w.heap.size,0,none⟩) (by simp)).trans (by simp),(hb.cell (p:=⟨w.heap.size,1,none⟩) (by simp)).trans (by simp)⟩
 by_cases h3:q.bt x=3
 ·have hr:gU q x s=bA 6 [x] s:=by rw[gU,jb h3]
  have KL:=fun(W:World) (hb:Below w.heap.size w W)=>oR 6 b _ 1 1 _ [x] s _ (hs.below (hb.alloc hb.size _) hs.lt) (iI W x (n:=W.heap.size) rfl) (fun y hy=>by simp only[List.mem_singleton]at hy;subst hy;exact hx) hv (by simp)
  rw[hr];rw[h3]at KK;clear h3 hr KH;generalize bA 6 [x] s=r at*;go_enter Tryz.func221,Tryz.ntmps221
  go_wp2_with (first
   |(go_at_call 207;refine KK.mono ?_;rintro e w1 ⟨rfl,aw⟩;have lv:=aY.trans (aw.mono aY.size);obtain⟨y0,y1⟩:=c0 _ aw)
   |(go_at_call 219;refine(KL w1 lv).mono ?_;rintro e w2 ⟨rfl,bU⟩))
  go_ret
  have mn:=lv.alloc lv.size (.cells #[.int .i64 (x.1:Nat),.int .i64 (x.2:Nat)] 119);exact⟨rfl,mn.trans (bU.mono mn.size)⟩
 ·have hr:gU q x s=bA 2 (QP.ae q x) s:=by rw[gU,ja h3]
  have KL:=fun(W:World) (g c:Nat) (hb:Below w.heap.size w W) (z:Nat) (hP:bP z W (.slice (some ⟨g,0,none⟩) (QP.ae q x).length c) (QP.ae q x))=>oR 2 b z _ c _ (QP.ae q x) s W (hs.below hb hs.lt) hP (cD hx) hv (by simp)
  have b3:(((q.bt x:Nat):Int)==3)=false:=by rw[jZ];omega
  rw[hr];clear h3 hr;generalize bA 2 (QP.ae q x) s=r at*;generalize QP.ae q x=hv' at*;generalize q.bt x=kv at*;go_enter Tryz.func221,Tryz.ntmps221
  go_wp2_with (first
   |(go_at_call 207;refine KK.mono ?_;rintro e w1 ⟨rfl,aw⟩;have lv:=aY.trans (aw.mono aY.size);obtain⟨y0,y1⟩:=c0 _ aw)
   |(go_at_call 102;refine(KH w1 lv).mono ?_;rintro e w2 ⟨g,c,rfl,zk,bU⟩;have mn:=lv.trans (bU.mono lv.size))
   |(go_at_call 219;refine(KL w2 g c mn _ zk).mono ?_;rintro e w3 ⟨rfl,lJ⟩))
  go_ret
  exact⟨rfl,mn.trans (lJ.mono mn.size)⟩
set_option maxRecDepth 20000 in
set_option maxHeartbeats 1000000 in
theorem O3 (q:QP)(b:Nat)(x:Nat×Nat)(s:List Nat)(v u:Value)(a:Nat)(w:World)(hp:w.heap[a]?=some (.cells #[v,u] 110 (0,0)))(hl:mc w v q.locals)(ie:q.locals.length<=4000)(Yb:x.1<q.locals.length)(hs:aX w b s)(hx:x.1<12):
  Calls Tryz.prog 178 #[.pointer (some ⟨b,0,none⟩),.pointer (some ⟨a,0,none⟩),.agg #[.int .i64 (x.1:Nat),.int .i64 (x.2:Nat)]] w fun e w'=>e=.returned (.int .u8 (dn q x s:Nat))/\Below w.heap.size w w':=by
 have aY:Below w.heap.size w (w.alloc (.cells #[.int .i64 (x.1:Nat),.int .i64 (x.2:Nat)] 119)):=(Below.refl _ _).alloc (jC _) _;have aL:=lt_of_heap hp;have Wr:∀w',Below w.heap.size w w'->w'.heap[a]?=some (.cells #[v,u] 110 (0,0)):=fun w' hb=>by rw[hb.block a aL];exact hp
 have KK:=vK q x v u a _ (Wr _ aY) (hl.below aY) ie Yb;have c0:∀w',Below (w.alloc (.cells #[.int .i64 (x.1:Nat),.int .i64 (x.2:Nat)] 119)).heap.size (w.alloc (.cells #[.int .i64 (x.1:Nat),.int .i64 (x.2:Nat)] 119)) w'->w'.cell? ⟨w.heap.size,0,none⟩=some (.int .i64 (x.1:Nat))/\w'.cell? ⟨w.heap.size,1,none⟩=some (.int .i64 (x.2:Nat)):=fun w' hb=>
  ⟨(hb.cell (p:=⟨w.heap.size,0,none⟩) (by simp)).trans (by simp),(hb.cell (p:=⟨w.heap.size,1,none⟩) (by simp)).trans (by simp)⟩
 by_cases h3:q.bt x=3
 ·have hr:dn q x s=s.getD (ah x) 0:=by rw[dn,jb h3]
  have yV:ah x<24:=by unfold ah;split<;>omega
  have RQ:(ah x:Int)<24:=by omega
  obtain⟨vv,Ya⟩:∃vv,vv=s.getD (ah x) 0:=⟨_,rfl⟩;rw[hr,<-Ya];rw[h3]at KK;have HV:Hid (s.getD (ah x) 0=vv):=Ya.symm;have KS:=fun w'=>kU x w' (by omega)
  clear h3 hr Ya;go_enter Tryz.func178,Tryz.ntmps178
  go_upto_region 3 with(go_at_call 207;refine KK.mono ?_;rintro e w1 ⟨rfl,aw⟩;have lv:=aY.trans (aw.mono aY.size);obtain⟨y0,y1⟩:=c0 _ aw)
  have KSd:=KS w1.drew;go_region_with (go_at_call 62;refine KSd.mono ?_;rintro e w2 ⟨rfl,bU⟩;have pF:Below w1.heap.size w1 w2:=⟨bU.os,bU.tape,bU.output,bU.size,bU.block⟩;have mn:=lv.trans (pF.mono lv.size);have s1:=((hs.below mn hs.lt).cell (ah x) yV).trans (by rw[HV.out]))
  all_goals go_wp2_with fail
  all_goals
   go_ret
   exact⟨rfl,mn⟩
 ·have hr:dn q x s=2:=by rw[dn,ja h3]
  have b3:(((q.bt x:Nat):Int)==3)=false:=by rw[jZ];omega
  rw[hr];clear h3 hr;generalize q.bt x=kv at*;go_enter Tryz.func178,Tryz.ntmps178
  go_wp2_with (go_at_call 207;refine KK.mono ?_;rintro e w1 ⟨rfl,aw⟩;have lv:=aY.trans (aw.mono aY.size))
  go_ret
  exact⟨rfl,lv⟩
theorem y4 (i:Nat)(w:World):Calls Tryz.prog 218 #[.int .i64 (i:Nat)] w fun e w'=>e=.returned (.int .u8 ((if i=0 then 4 else 2:Nat):Nat))/\w'=w:=by
 by_cases h:i=0
 ·subst h;go_enter Tryz.func218,Tryz.ntmps218
  go_wp2
  go_ret
  exact⟨rfl,rfl⟩
 ·have b0:((i:Int)==0)=false:=by rw[jZ];omega
  rw[ja h];clear h;go_enter Tryz.func218,Tryz.ntmps218
  go_wp2
  go_ret
  exact⟨rfl,rfl⟩
end FlwD
end Go.Proofs.YtmlgajhhnojdjaaGreatDoor

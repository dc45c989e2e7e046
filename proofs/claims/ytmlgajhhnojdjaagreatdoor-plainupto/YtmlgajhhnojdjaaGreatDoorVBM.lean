import Derived.Test.YtmlgajhhnojdjaaGreatDoorVBL
namespace Go.Proofs.YtmlgajhhnojdjaaGreatDoor
namespace El
open Go Sq Aux RefRa PrjS
def kJ (ls:List (B×Nat))(l:ab):List B:=bD l.op::bN ls l.number l.flag (ae l.op) l.places l.next
structure Told (ls:List (B×Nat))(nb:Nat)(l:ab):Prop where
 ok:iB ls.length nb l
 flag:l.flag<50
 value:118∈ae l.op->l.number=0\/l.number=1
 whole:fA (ae l.op) l.places
 IW:(ae l.op).any (fun c=>c==35||c==118)=false->l.number=0
 yN:(ae l.op).any (·==102)=false->l.flag=0
end El
namespace El
open Go Sq Aux RefRa PrjS RunA
theorem CV {w:B}(h:isName w=true):bd w=some (w,0):=by
 have:=Gq (fQ h) (k:=0) (by omega);have e:w++fU 0=w:=by show w++[]=w;exact List.append_nil w
 rwa [e]at this
theorem zQ {w:B}{c:UInt8}(hc:c=105\/c=111)(h:ey w c=true):isName w=true:=by
 unfold ey at h;rw[jb (by rcases hc with h|h<;>simp[h])]at h;exact h
theorem gq (ls:List (B×Nat))(nb:Nat):∀(f:B) (ws:List B) (l0 l:ab),bV ls nb f ws l0=some l->aV f ws=true->
  ∃ps,l.places=l0.places++ps/\fA f ps/\(f.any (fun c=>c==35||c==118)=false->l.number=l0.number)/\(f.any (·==102)=false->l.flag=l0.flag)
 |[],ws,l0,l,h,_=>by
  simp only[bV,Option.some.injEq]at h;subst h;exact⟨[],by simp,trivial,fun _=>rfl,fun _=>rfl⟩
 |c::f,ws,l0,l,h,hf=>by
  rw[bV]at h;rw[aV,jH]at hf;by_cases c1:c=35\/c=118
  ·rw[jb c1]at h;obtain⟨ps,h1,h2,h3,h4⟩:=gq ls nb f (ws.drop 1) _ l h hf.2;have e1:eg c=false:=by rcases c1 with rfl|rfl<;>rfl
   have e2:(c==35||c==118)=true:=by rcases c1 with rfl|rfl<;>rfl
   have e3:(c==102)=false:=by rcases c1 with rfl|rfl<;>rfl
   refine⟨ps,h1,by rw[fA,e1];exact h2,fun hh=> ?_,fun hh=>h4 ?_⟩
   ·rw[List.any_cons,e2]at hh;cases hh
   ·rw[List.any_cons,e3,Bool.false_or]at hh;exact hh
  ·rw[ja c1]at h;have n1:(c==35||c==118)=false:=by
    rw[not_or]at c1;rw[Bool.or_eq_false_iff,jZ,jZ];exact c1
   by_cases c2:c=102
   ·rw[jb c2]at h;obtain⟨ps,h1,h2,h3,h4⟩:=gq ls nb f (ws.drop 1) _ l h hf.2;subst c2;refine⟨ps,h1,by rw[fA];exact h2,fun hh=>h3 ?_,fun hh=> ?_⟩
    ·rw[List.any_cons,n1,Bool.false_or]at hh;exact hh
    ·rw[List.any_cons]at hh;cases hh
   ·rw[ja c2]at h;have n2:(c==102)=false:=by rw[jZ];exact c2
    by_cases c3:c=98
    ·rw[jb c3]at h;split at h
     ·cases h
     ·obtain⟨ps,h1,h2,h3,h4⟩:=gq ls nb f (ws.drop 1) _ l h hf.2;subst c3;refine⟨ps,h1,by rw[fA];exact h2,fun hh=>h3 ?_,fun hh=>h4 ?_⟩
      ·rw[List.any_cons,n1,Bool.false_or]at hh;exact hh
      ·rw[List.any_cons,n2,Bool.false_or]at hh;exact hh
    ·rw[ja c3]at h;split at h
     ·cases h
     ·obtain⟨ps,h1,h2,h3,h4⟩:=gq ls nb f (ws.drop 1) _ l h hf.2;simp only at h1;have dL:eg c=true:=by
       rw[not_or]at c1;simp[eg,c1.1,c1.2,c2,c3]
      refine⟨_::ps,by rw[h1,List.append_assoc];rfl,?_,fun hh=>h3 ?_,fun hh=>h4 ?_⟩
      ·rw[fA,jb dL];refine⟨fun hc=> ?_,h2⟩;show((bd (word ws 0)).getD ([],0)).2=0
       rw[CV (zQ hc hf.1)];rfl
      ·rw[List.any_cons,n1,Bool.false_or]at hh;exact hh
      ·rw[List.any_cons,n2,Bool.false_or]at hh;exact hh
theorem zL:∀(ls:List (B×Nat)) (n:B) (k:Nat),n∈ls.map (·.1)->0<=bj ls n k
 |[],_,_,h=>by cases h
 |x::ls,n,k,h=>by
  rw[bj];split
  ·omega
  ·rename_i c8;rw[List.map_cons,jP]at h;exact zL ls n (k+1) (h.resolve_left fun e=>c8 e.symm)
theorem q7 {ws:List B}{x:Nat×List B}(h:bW ws=some x):aV (ae x.1) x.2=true:=by
 rw[bW]at h;cases ho:cz (word ws 0)with
 |none=>rw[ho]at h;cases h
 |some op=>
  rw[ho]at h;simp only at h;split at h
  ·rename_i hh;cases h;exact hh.2
  ·cases h
structure Nc (q:QP):Prop where
 names:∀x∈q.locals,isName x.1=true
 nodup:(q.locals.map (·.1)).Nodup
 lines:∀b∈q.blocks,∀l∈b,fA (ae l.op) l.places/\((ae l.op).any (fun c=>c==35||c==118)=false->l.number=0)/\((ae l.op).any (·==102)=false->l.flag=0)
structure UY (o:di)(q:QP)(j:Nat):Prop where
 loc:o.locals=q.locals.length
 aD:o.blocks=q.blocks.length
 CE:o.locals<=12
 BF:o.blocks<=20
 kp:o.sec=1->¬q.blocks=[]
 pos:¬o.sec=0->0<o.locals/\0<o.blocks
 sum:q.locals.length+q.blocks.length+q.blocks.flatten.length=j
theorem si {q:QP}(h:¬q.blocks=[])(l:ab):∃bs b,q.blocks=bs++[b]/\(q.addLine l).blocks=bs++[b++[l]]:=by
 refine⟨q.blocks.dropLast,q.blocks.getLast h,(List.dropLast_concat_getLast h).symm,?_⟩;show q.blocks.dropLast++[q.blocks.getLastD []++[l]]=_
 congr 3;rw[List.getLastD_eq_getLast?,List.getLast?_eq_some_getLast h];rfl
theorem Jk (nb:Nat):∀(ls:List (List B)) (o:di) (i j:Nat) (q0 q:QP),(ar false ls o i).2.2=none->aJ nb (ar false ls o i).1 j q0=(q,none)->Nc q0->UY o q0 j->Nc q/\UY (ar false ls o i).2.1 q (j+ls.length)
 |[],o,i,j,q0,q,_,h,hs,hc=>by
  simp only[ar,aJ,Prod.mk.injEq,and_true]at h;rw[<-h];exact⟨hs,hc⟩
 |ws::r,o,i,j,q0,q,hn,h,hs,hc=>by
  rw[ar]at hn h⊢;cases hx:bW ws with
  |none=>rw[hx]at hn;cases hn
  |some x=>
   rw[hx]at hn h;simp only at hn h⊢;have T0:=q7 hx;by_cases ha:(aq false o x.1).2=true
   ·rw[jb ha]at hn h⊢;have ih:=fun q1 hl mZ rX=>Jk nb r (aq false o x.1).1 (i+1) (j+1) q1 q hn hl mZ rX
    have ej:j+1+r.length=j+(ws::r).length:=by rw[jY];omega
    rw[ej]at ih;have EV:=oq ha;rw[aJ]at h;have Ad:¬fK false x.1=false:=by rw[EV];decide
    by_cases e0:x.1=0
    ·rw[jb e0]at h;split at h
     ·simp at h
     ·rename_i hfd;have e:aq false o x.1=(⟨o.sec,o.locals+1,o.blocks⟩,o.sec==0&&decide (o.locals+1<=12)):=by rw[aq,ja Ad,jb e0]
      rw[e]at ha;simp only[Bool.and_eq_true,beq_iff_eq,decide_eq_true_eq]at ha;rw[e0]at T0;have Ri:isName (word x.2 0)=true:=by
       have h1:(ey (word x.2 0) 100&&aV [116] (x.2.drop 1))=true:=T0;rw[jH]at h1;exact h1.1
      refine ih _ h ⟨fun y hy=> ?_,?_,hs.lines⟩ ?_
      ·simp only[QP.addLocal,List.mem_append,List.mem_singleton]at hy;rcases hy with hy|rfl
       ·exact hs.names y hy
       ·exact Ri
      ·show((q0.locals++[(word x.2 0,(c7 (word x.2 1)).getD 0)]).map (fun y=>y.1)).Nodup
       rw[List.map_append,List.nodup_append];refine⟨hs.nodup,by simp,fun a ha' b hb=> ?_⟩;simp only[List.map_cons,List.map_nil,List.mem_singleton]at hb;subst hb;intro Mv;subst Mv;exact hfd (zL q0.locals _ 0 ha')
      ·rw[e];refine⟨by show o.locals+1=(q0.locals++[_]).length;rw[hc.loc];simp,hc.aD,ha.2,hc.BF,hc.kp,fun h1=>absurd ha.1 h1,?_⟩;have:=hc.sum;show(q0.locals++[_]).length+q0.blocks.length+q0.blocks.flatten.length=j+1
       rw[jV];simp only[List.length_cons,List.length_nil];omega
    ·rw[ja e0]at h;by_cases e1:x.1=1
     ·rw[jb e1]at h;have e:aq false o x.1=(⟨1,o.locals,o.blocks+1⟩,decide (0<o.locals)&& !(o.sec==1)&&decide (o.blocks+1<=if false then 2000 else 20)):=by rw[aq,ja Ad,ja e0,jb e1]
      rw[e]at ha;simp only[Bool.and_eq_true,decide_eq_true_eq]at ha;have hle:o.blocks+1<=20:=ha.2;have Ya:=ha.1.1;refine ih _ h ⟨hs.names,hs.nodup,fun b hb l hl=> ?_⟩ ?_
      ·simp only[QP.addBlock,List.mem_append,List.mem_singleton]at hb;rcases hb with hb|rfl
       ·exact hs.lines b hb l hl
       ·cases hl
      ·rw[e];refine⟨hc.loc,by show o.blocks+1=(q0.blocks++[_]).length;rw[hc.aD];simp,hc.CE,hle,fun _=>by show¬q0.blocks++[[]]=[];simp,fun _=>⟨Ya,Nat.succ_pos _⟩,?_⟩;have:=hc.sum;show q0.locals.length+(q0.blocks++[[]]).length+(q0.blocks++[[]]).flatten.length=j+1
       simp only[List.length_append,List.length_cons,List.length_nil,List.flatten_append,List.flatten_cons,List.flatten_nil];omega
     ·rw[ja e1]at h;cases hl:cU q0.locals nb x with
      |none=>rw[hl]at h;simp at h
      |some l=>
       rw[hl]at h;have aH:=tm hl;by_cases h1:o.sec=1
       ·obtain⟨bs,b,hb,rD⟩:=si (hc.kp h1) {l with num:=j};obtain⟨ps,k1,k2,k3,k4⟩:=gq q0.locals nb _ _ _ _ hl T0;simp only[List.nil_append]at k1;have aP:=fun rX=>ih _ h ⟨hs.names,hs.nodup,fun c p6 m hm=>by
         rw[rD]at p6;simp only[List.mem_append,List.mem_singleton]at p6;rcases p6 with p6|rfl
         ·exact hs.lines c (by rw[hb];simp[p6]) m hm
         ·simp only[List.mem_append,List.mem_singleton]at hm;rcases hm with hm|rfl
          ·exact hs.lines b (by rw[hb];simp) m hm
          ·show fA (ae l.op) l.places/\((ae l.op).any (fun c=>c==35||c==118)=false->l.number=0)/\((ae l.op).any (·==102)=false->l.flag=0)
           rw[aH,k1];exact⟨k2,k3,k4⟩⟩ rX
        refine aP ?_;have Oa:=hc.sum;have MO:(q0.addLine {l with num:=j}).locals.length+(q0.addLine {l with num:=j}).blocks.length+(q0.addLine {l with num:=j}).blocks.flatten.length=j+1:=by
         rw[rD];rw[hb]at Oa;simp only[List.length_append,List.length_cons,List.length_nil,List.flatten_append,List.flatten_cons,List.flatten_nil,List.append_nil]at Oa⊢;show q0.locals.length+_+_=_
         omega
        have mO:(q0.addLine {l with num:=j}).blocks.length=q0.blocks.length:=by rw[rD,hb];simp
        have c8:¬(q0.addLine {l with num:=j}).blocks=[]:=by rw[rD];simp
        by_cases iN:18<=x.1
        ·have e:(aq false o x.1).1=⟨2,o.locals,o.blocks⟩:=by rw[aq,ja Ad,ja e0,ja e1,ja (by simp[h1]),jb iN]
         rw[e];exact⟨hc.loc,by rw[mO];exact hc.aD,hc.CE,hc.BF,fun _=>c8,fun _=>hc.pos (by omega),MO⟩
        ·have e:(aq false o x.1).1=o:=by rw[aq,ja Ad,ja e0,ja e1,ja (by simp[h1]),ja iN]
         rw[e];exact⟨hc.loc,by rw[mO];exact hc.aD,hc.CE,hc.BF,fun _=>c8,hc.pos,MO⟩
       ·exfalso;rw[aq,ja Ad,ja e0,ja e1,jb h1]at ha;cases ha
   ·rw[ja ha]at hn;cases hn
structure Ti (q:QP):Prop where
 told:Nc q
 CE:q.locals.length<=12
 l1:0<q.locals.length
 BF:q.blocks.length<=20
 b1:0<q.blocks.length
 sum:q.locals.length+q.blocks.length+q.blocks.flatten.length<=120
theorem tQ {text:B}{q:QP}(h:ax text false=(some q,0,0)):Ti q:=by
 by_cases hlong:(split 10 text).length>(if false=true then 4000 else 120)
 ·rw[ax,jb hlong]at h;cases h
 ·rw[ax,ja hlong]at h;split at h
  ·cases h
  ·rename_i qm;split at h
   ·cases h
   ·rename_i lo;split at h
    ·cases h
    ·rename_i ld;split at h
     ·cases h
     ·simp only[Prod.mk.injEq,Option.some.injEq,and_true]at h;obtain⟨hs,hc⟩:=Jk (countB (ar false (ba text) ⟨0,0,0⟩ 0).1) (ba text) ⟨0,0,0⟩ 0 0 QP.empty q qm (by rw[<-h,<-ld]) ⟨fun x hx=>(by cases hx),List.nodup_nil,fun b hb=>(by cases hb)⟩ ⟨rfl,rfl,by simp,by simp,fun h=>(by cases h),fun h=>absurd rfl h,rfl⟩;have hp:=hc.pos (by simp only[Classical.not_not]at lo;omega);have h1:=hc.CE;have h2:=hc.BF;rw[hc.loc]at h1 hp;rw[hc.aD]at h2 hp;have hlen:(ba text).length<=120:=by
       rw[iz];have:¬(split 10 text).length>120:=hlong;omega
      exact⟨hs,h1,hp.1,h2,hp.2,by have:=hc.sum;omega⟩
end El
namespace MadA
open Go Sq
theorem iv (c:UInt8):∀(a:B),¬c∈a->split c a=[a]
 |[],_=>rfl
 |x::a,h=>by
  simp only[List.mem_cons,not_or]at h;rw[split,ja (fun e=>h.1 e.symm),iv c a h.2];rfl
theorem fT (c:UInt8):∀(a t:B),¬c∈a->split c (a++c::t)=a::split c t
 |[],t,_=>by simp[split]
 |x::a,t,h=>by
  simp only[List.mem_cons,not_or]at h;rw[jW,split,ja (fun e=>h.1 e.symm),fT c a t h.2];rfl
def Ou (i:Fin 5):B:=match i with
 |0=>[112]|1=>[113]|2=>[120,46,97]|3=>[120,46,98]|4=>[111,46,115]
def Ov (i:Fin 5):Nat×Nat:=match i with
 |0=>(1,0)|1=>(2,0)|2=>(3,1)|3=>(3,2)|4=>(4,3)
inductive ML where
 |new (i:Fin 5)
 |load (i:Fin 5)
 |store (i:Fin 5)
 |move (i k:Fin 5)
 |drop (i:Fin 5)
 |some (k:Fin 5)
def ML.text:ML->B
 |new i=>[110,101,119,32]++Ou i++[32,110]
 |load i=>[108,111,97,100,32,110,32]++Ou i
 |store i=>[115,116,111,114,101,32]++Ou i++[32,110]
 |move i k=>[109,111,118,101,32]++Ou i++([32]++Ou k)
 |drop i=>[100,114,111,112,32]++Ou i
 |some k=>[115,111,109,101,32,111,32]++Ou k
def ML.q (n:Nat):ML->ab
 |new i=>⟨n,9,[Ov i,(0,0)],0,0,[]⟩
 |load i=>⟨n,10,[(0,0),Ov i],0,0,[]⟩
 |store i=>⟨n,11,[Ov i,(0,0)],0,0,[]⟩
 |move i k=>⟨n,12,[Ov i,Ov k],0,0,[]⟩
 |drop i=>⟨n,15,[Ov i],0,0,[]⟩
 |some k=>⟨n,14,[(4,0),Ov k],0,0,[]⟩
instance:DecidableEq ab:=fun x y=>decidable_of_iff (x.num=y.num/\x.op=y.op/\x.places=y.places/\x.number=y.number/\x.flag=y.flag/\x.next=y.next)
 ⟨fun⟨h1,h2,h3,h4,h5,h6⟩=>by cases x;cases y;simp only at h1 h2 h3 h4 h5 h6;subst h1 h2 h3 h4 h5 h6;rfl,fun h=>by subst h;exact⟨rfl,rfl,rfl,rfl,rfl,rfl⟩⟩
end MadA
namespace El
open Go Sq Aux RefRa PrjS RunA MadA Bal
theorem fv (a b:B)(l:List B)(c:UInt8):Lib.join (a::b::l) [c]=a++c::Lib.join (b::l) [c]:=by simp[Lib.join,List.intercalate,List.intersperse]
theorem kT (c:UInt8):∀(l:List B) (a:B),(∀b∈a::l,¬c∈b)->split c (Lib.join (a::l) [c])=a::l
 |[],a,h=>by rw[Lib.join_one];exact iv c a (h a (jM ..))
 |b::l,a,h=>by
  rw[fv,fT c a _ (h a (jM ..)),kT c l b (fun x hx=>h x (jN _ hx))]
theorem yD {c d:UInt8}(hcd:¬d=c):∀(l:List B),(∀b∈l,¬d∈b)->¬d∈Lib.join l [c]
 |[],_=>by simp[Lib.join,List.intercalate]
 |[a],h=>by rw[Lib.join_one];exact h a (jM ..)
 |a::b::l,h=>by
  rw[fv];intro hm;rcases List.mem_append.1 hm with hm|hm
  ·exact h a (jM ..) hm
  ·rcases jP.1 hm with hm|hm
   ·exact hcd hm
   ·exact yD hcd (b::l) (fun x hx=>h x (jN _ hx)) hm
theorem j6 {n:Nat}(c:UInt8):∀(l:List B),(∀b∈l,b.length<=n)->(Lib.join l [c]).length<=(n+1)*l.length
 |[],_=>by simp[Lib.join,List.intercalate]
 |[a],h=>by
  have:=h a (jM ..);rw[Lib.join_one];simp;omega
 |a::b::l,h=>by
  have ih:=j6 c (b::l) (fun x hx=>h x (jN _ hx));have h1:=h a (jM ..);rw[fv,jV,jY,jY,Nat.mul_succ];omega
theorem ov (n:Nat):sA n=Lib.decDigits n:=by
 induction n using Nat.strongRecOn with
 |_ n ih=>
  by_cases h:n<10
  ·rw[He n (by omega),Lib.decDigits,dif_pos h];rfl
  ·rw[EC n (by omega),Lib.decDigits,dif_neg h,ih (n/10) (by omega)];rfl
theorem ph (n:Int):Kg n=Lib.itoa n:=by
 unfold Kg Lib.itoa;split
 ·rw[ov]
 ·rw[ov,show n.natAbs=n.toNat by omega]
theorem xq (n:Nat):sA n=Lib.itoa (n:Int):=by rw[ov,Iy]
theorem oK (n:Int):∀c∈Lib.itoa n,45<=c.toNat:=fun c hc=>by
 unfold Lib.itoa at hc;split at hc
 ·rcases jP.1 hc with h|h
  ·rw[h];decide
  ·have:=(pj _ c h).1;omega
 ·have:=(pj _ c hc).1;omega
theorem oJ {n:Int}(h: -1000000000<=n/\n<=1000000000):(Lib.itoa n).length<=21:=Lib.itoa_length_le n (by omega) (by omega)
theorem yK {b:B}(h:∀c∈b,45<=c.toNat):¬(10:UInt8)∈b/\¬(32:UInt8)∈b:=
 ⟨fun e=>absurd (h 10 e) (by decide),fun e=>absurd (h 32 e) (by decide)⟩
theorem kL {n:B}(h:isName n=true):(∀c∈n,45<=c.toNat)/\n.length<=4:=by
 unfold isName at h;simp only[Bool.and_eq_true,List.all_eq_true,decide_eq_true_eq]at h;refine⟨fun c hc=> ?_,h.2⟩;have:=h.1.1 c hc;simp only[lower,Bool.and_eq_true,decide_eq_true_eq]at this;omega
theorem xV (k:Nat):(∀c∈fU k,45<=c.toNat)/\(fU k).length<=2:=by
 unfold fU
 repeat (first|(split;(first|(exact⟨by decide,by decide⟩)|skip))|exact⟨by decide,by decide⟩)
def Wd (b:B):Prop:=(∀c∈b,45<=c.toNat)/\b.length<=21
theorem iy {ls:List (B×Nat)}(vK:∀x∈ls,isName x.1=true){num fl:Int}(yt: -1000000000<=num/\num<=1000000000)(yo:0<=fl/\fl<=1000000000):∀(f:B) (ps:List (Nat×Nat)) (nx:List Nat),(∀n∈nx,n<=1000000000)->∀b∈bN ls num fl f ps nx,Wd b
 |[],_,_,_,b,hb=>by cases hb
 |c::f,ps,nx,hx,b,hb=>by
  rw[bN]at hb;split at hb
  ·rcases jP.1 hb with rfl|hb
   ·rw[ph];exact⟨oK _,oJ yt⟩
   ·exact iy vK yt yo f ps nx hx b hb
  ·split at hb
   ·rcases jP.1 hb with rfl|hb
    ·rw[ph];exact⟨oK _,oJ (by omega)⟩
    ·exact iy vK yt yo f ps nx hx b hb
   ·split at hb
    ·rcases jP.1 hb with rfl|hb
     ·rw[xq];refine⟨oK _,oJ ?_⟩;cases nx with
      |nil=>show-1000000000<=((0:Nat):Int)/\((0:Nat):Int)<=1000000000;omega
      |cons n nx=>have:=hx n (jM ..);show-1000000000<=((n:Nat):Int)/\((n:Nat):Int)<=1000000000;omega
     ·exact iy vK yt yo f ps nx.tail (fun n hn=>hx n (List.mem_of_mem_tail hn)) b hb
    ·rcases jP.1 hb with rfl|hb
     ·unfold S0;have h1:(∀c∈(ls.getD (ps.headD (0,0)).1 ([],0)).1,45<=c.toNat)/\(ls.getD (ps.headD (0,0)).1 ([],0)).1.length<=4:=by
       rw[jA];cases hg:ls[(ps.headD (0,0)).1]? with
       |none=>exact⟨fun c hc=>(by cases hc),by simp⟩
       |some x=>exact kL (vK x (List.mem_of_getElem? hg))
      have h2:=xV (ps.headD (0,0)).2;refine⟨fun c hc=>(List.mem_append.1 hc).elim (h1.1 c) (h2.1 c),?_⟩;rw[jV];have:=h1.2;have:=h2.2;omega
     ·exact iy vK yt yo f ps.tail nx hx b hb
theorem RU:∀op:Fin 23,(∀c∈bD op.val,45<=c.toNat)/\(bD op.val).length<=5:=by decide
theorem xX:∀op:Fin 23,(ae op.val).length<=3:=by decide
def lj (ls:List (B×Nat))(l:ab):B:=Lib.join (kJ ls l) [32]
section
variable {ls:List (B×Nat)} {nb:Nat} {l:ab}
theorem sa (vK:∀x∈ls,isName x.1=true)(Lg:nb<=1000000000)(h:Told ls nb l):∀b∈kJ ls l,Wd b:=fun b hb=>by
 unfold kJ at hb;rcases jP.1 hb with rfl|hb
 ·have:=RU ⟨l.op,h.ok.op⟩;exact⟨this.1,jS this.2 (by decide)⟩
 ·exact iy vK h.ok.number h.ok.flag _ _ _ (fun n hn=>by have:=h.ok.next n hn;omega) b hb
theorem CK (vK:∀x∈ls,isName x.1=true)(Lg:nb<=1000000000)(h:Told ls nb l):split 32 (lj ls l)=kJ ls l:=
 kT 32 _ _ (fun b hb=>(yK (sa vK Lg h b hb).1).2)
theorem LF (vK:∀x∈ls,isName x.1=true)(Lg:nb<=1000000000)(h:Told ls nb l):¬(10:UInt8)∈lj ls l:=
 yD (by decide) _ (fun b hb=>(yK (sa vK Lg h b hb).1).1)
theorem Fq (vK:∀x∈ls,isName x.1=true)(Lg:nb<=1000000000)(h:Told ls nb l):(lj ls l).length<=88:=by
 have h1:=j6 (n:=21) 32 (kJ ls l) (fun b hb=>(sa vK Lg h b hb).2);have h2:(kJ ls l).length<=4:=by
  unfold kJ;rw[jY,kk];have:=xX ⟨l.op,h.ok.op⟩;simp only at this;omega
 unfold lj;omega
end
def CG (x:B×Nat):List B:=[eD,x.1,bZ.getD x.2 []]
def lY (x:B×Nat):B:=Lib.join (CG x) [32]
theorem M6:∀t:Fin 4,(∀c∈bZ.getD t.val [],45<=c.toNat)/\(bZ.getD t.val []).length<=4/\c7 (bZ.getD t.val [])=some t.val:=by decide
theorem CH {x:B×Nat}(h1:isName x.1=true)(h2:x.2<=3):∀b∈CG x,Wd b:=fun b hb=>by
 simp only[CG,List.mem_cons,List.not_mem_nil,or_false]at hb;rcases hb with rfl|rfl|rfl
 ·exact⟨by decide,by decide⟩
 ·have:=kL h1;exact⟨this.1,by have:=this.2;omega⟩
 ·have:=M6 ⟨x.2,by omega⟩;exact⟨this.1,by have:=this.2.1;simp only at this;omega⟩
theorem Fp {x:B×Nat}(h1:isName x.1=true)(h2:x.2<=3):split 32 (lY x)=CG x:=kT 32 _ _ (fun b hb=>(yK (CH h1 h2 b hb).1).2)
theorem Oj {x:B×Nat}(h1:isName x.1=true)(h2:x.2<=3):¬(10:UInt8)∈lY x:=yD (by decide) _ (fun b hb=>(yK (CH h1 h2 b hb).1).1)
theorem IH {x:B×Nat}(h1:isName x.1=true)(h2:x.2<=3):(lY x).length<=88:=by
 have:=j6 (n:=21) 32 (CG x) (fun b hb=>(CH h1 h2 b hb).2);unfold lY;have e:(CG x).length=3:=rfl;omega
end El
end Go.Proofs.YtmlgajhhnojdjaaGreatDoor
namespace Go.Proofs
open Go.Shelf
def Tryz.yH:Go.Shelf.Ren:=⟨fun|171=>134|243=>183|246=>182|283=>212|284=>213|285=>214|286=>215|129=>232|317=>231|318=>233|319=>234|320=>235|337=>242|338=>243|n=>n,fun|3=>3|9=>9|2=>2|4=>4|171=>90|0=>0|53=>281|37=>93|5=>5|173=>284|212=>299|51=>300|20=>20|213=>301|46=>292|232=>313|233=>314|n=>n,fun|17=>4|18=>7|19=>8|n=>n⟩
theorem Tryz.IC:Go.Proofs.LaysM.n171 Tryz.prog Tryz.yH:={
 mixed:=by kernel_rfl
 f129:=Tryz.func232.trans (congrArg some (by kernel_rfl))
 f171:=Tryz.func134.trans (congrArg some (by kernel_rfl))
 f243:=Tryz.func183.trans (congrArg some (by kernel_rfl))
 f246:=Tryz.func182.trans (congrArg some (by kernel_rfl))
 f283:=Tryz.func212.trans (congrArg some (by kernel_rfl))
 f284:=Tryz.func213.trans (congrArg some (by kernel_rfl))
 f285:=Tryz.func214.trans (congrArg some (by kernel_rfl))
 f286:=Tryz.func215.trans (congrArg some (by kernel_rfl))
 f317:=Tryz.func231.trans (congrArg some (by kernel_rfl))
 f318:=Tryz.func233.trans (congrArg some (by kernel_rfl))
 f319:=Tryz.func234.trans (congrArg some (by kernel_rfl))
 f320:=Tryz.func235.trans (congrArg some (by kernel_rfl))
 f337:=Tryz.func242.trans (congrArg some (by kernel_rfl))
 f338:=Tryz.func243.trans (congrArg some (by kernel_rfl))
 t0:=Tryz.underlying0
 a0:=Tryz.isAgg0
 z0:=Tryz.sizeOf0
 v0:=Tryz.zeroValue0
 t2:=Tryz.underlying2
 a2:=Tryz.isAgg2
 z2:=Tryz.sizeOf2
 v2:=Tryz.zeroValue2
 t3:=Tryz.underlying3
 a3:=Tryz.isAgg3
 z3:=Tryz.sizeOf3
 v3:=Tryz.zeroValue3
 t4:=Tryz.underlying4
 a4:=Tryz.isAgg4
 z4:=Tryz.sizeOf4
 v4:=Tryz.zeroValue4
 t5:=Tryz.underlying5
 a5:=Tryz.isAgg5
 z5:=Tryz.sizeOf5
 v5:=Tryz.zeroValue5
 t9:=Tryz.underlying9
 a9:=Tryz.isAgg9
 z9:=Tryz.sizeOf9
 v9:=Tryz.zeroValue9
 t20:=Tryz.underlying20
 a20:=Tryz.isAgg20
 z20:=Tryz.sizeOf20
 v20:=Tryz.zeroValue20
 t37:=Tryz.underlying93
 a37:=Tryz.isAgg93
 z37:=Tryz.sizeOf93
 v37:=Tryz.zeroValue93
 t46:=Tryz.underlying292
 a46:=Tryz.isAgg292
 z46:=Tryz.sizeOf292
 v46:=Tryz.zeroValue292
 t51:=Tryz.underlying300
 a51:=Tryz.isAgg300
 z51:=Tryz.sizeOf300
 v51:=Tryz.zeroValue300
 t53:=Tryz.underlying281
 a53:=Tryz.isAgg281
 z53:=Tryz.sizeOf281
 v53:=Tryz.zeroValue281
 t171:=Tryz.underlying90
 a171:=Tryz.isAgg90
 z171:=Tryz.sizeOf90
 v171:=Tryz.zeroValue90
 t173:=Tryz.underlying284
 a173:=Tryz.isAgg284
 z173:=Tryz.sizeOf284
 v173:=Tryz.zeroValue284
 t212:=Tryz.underlying299
 a212:=Tryz.isAgg299
 z212:=Tryz.sizeOf299
 v212:=Tryz.zeroValue299
 t213:=Tryz.underlying301
 a213:=Tryz.isAgg301
 z213:=Tryz.sizeOf301
 t232:=Tryz.underlying313
 a232:=Tryz.isAgg313
 z232:=Tryz.sizeOf313
 v232:=Tryz.zeroValue313
 t233:=Tryz.underlying314
 a233:=Tryz.isAgg314
 z233:=Tryz.sizeOf314
 v233:=Tryz.zeroValue314
 g17:=by kernel_rfl
 g18:=by kernel_rfl
 g19:=by kernel_rfl
 i0:=by kernel_rfl
 i2:=by kernel_rfl
 i3:=by kernel_rfl
 i4:=by kernel_rfl
 i5:=by kernel_rfl
 i9:=by kernel_rfl
 i20:=by kernel_rfl
 i37:=by kernel_rfl
 i46:=by kernel_rfl
 i51:=by kernel_rfl
 i53:=by kernel_rfl
 i171:=by kernel_rfl
 i173:=by kernel_rfl
 i212:=by kernel_rfl
 i232:=by kernel_rfl
 i233:=by kernel_rfl
 m17:=by kernel_rfl
 m18:=by kernel_rfl
 m19:=by kernel_rfl}
open Go.RowKit Go.Sort Go.Lib in
theorem Tryz.strconv_Itoa (n:Int)(h0: -9223372036854775808<=n)(h1:n<=9223372036854775807)(w:World)(htab:Lib.TabIs Tryz.prog w "internal/strconv.uint64pow10" .u64 Lib.pow10Tab):
  Calls Tryz.prog 134 #[.int .i64 n] w fun e w'=>e=.returned (.string ⟨(Lib.itoa n).toArray⟩)/\∃k os,w'=grow (w.drewN k) os:=Any.strconv_Itoa Tryz.IC n h0 h1 w htab
end Go.Proofs
namespace Go.Proofs.YtmlgajhhnojdjaaGreatDoor
namespace El
open Go Go.RowKit Sq Aux Go.Proofs.YtmlgajhhnojdjaaGreatDoor.Own RefRa PrjF PrjG PrjJ PrjK PrjL PrjM PrjO PrjP PrjS PrjT FlwA FlwB FlwE
def Jn:List Value:=[.string (bs (fU 0)),.string (bs (fU 1)),.string (bs (fU 2)),.string (bs (fU 3))]
def ks (w:World):Prop:=w.rangeAt 2 0 Jn
theorem ks.below {w w':World}{b:Nat}(h:ks w)(hb:Below b w w')(hs:11<=b):ks w':=fun j v hv=>by
 rw[hb.cell (p:=⟨2,0+j,none⟩) (jK (show 2<11 by decide) hs)];exact h j v hv
theorem Jo {w:World}(h:ks w){k:Nat}(hk:k<=3):w.cell? ⟨2,k,none⟩=some (.string (bs (fU k))):=by
 have hc:k=0\/k=1\/k=2\/k=3:=by omega
 rcases hc with rfl|rfl|rfl|rfl
 ·exact h 0 _ rfl
 ·exact h 1 _ rfl
 ·exact h 2 _ rfl
 ·exact h 3 _ rfl
theorem Mb (op:Nat)(h:op<23):dF[op*2]?=some (.string (bs (bD op))):=by
 have h:op=0\/op=1\/op=2\/op=3\/op=4\/op=5\/op=6\/op=7\/op=8\/op=9\/op=10\/op=11\/op=12\/op=13\/op=14\/op=15\/op=16\/op=17\/op=18\/op=19\/op=20\/op=21\/op=22:=by omega
 rcases h with rfl|rfl|rfl|rfl|rfl|rfl|rfl|rfl|rfl|rfl|rfl|rfl|rfl|rfl|rfl|rfl|rfl|rfl|rfl|rfl|rfl|rfl|rfl<;>rfl
theorem qF {w:World}(E:Env w)(op:Nat)(h:op<23):w.cell? ⟨0,op*2,none⟩=some (.string (bs (bD op))):=by
 have:=E.C8 (op*2) (.string (bs (bD op))) (Mb op h);simpa using this
theorem GC {w:World}(E:Env w)(t:Nat)(h:t<=3):w.cell? ⟨1,t,none⟩=some (.string (bs (bZ.getD t []))):=by
 have hc:t=0\/t=1\/t=2\/t=3:=by omega
 rcases hc with rfl|rfl|rfl|rfl
 ·exact E.types 0 _ rfl
 ·exact E.types 1 _ rfl
 ·exact E.types 2 _ rfl
 ·exact E.types 3 _ rfl
def J7 (z:Nat)(w:World)(v:Value)(ps:List (Nat×Nat)):Prop:=(ps=[]/\∃ad c,v=.slice ad 0 c)\/
 ∃g o c,v=.slice (some ⟨g,o,none⟩) ps.length c/\ps.length<=c/\g<z/\∀j,j<ps.length->w.cell? ⟨g,o+j*2,none⟩=some (.int .i64 ((ps.getD j (0,0)).1:Nat))/\w.cell? ⟨g,o+j*2+1,none⟩=some (.int .i64 ((ps.getD j (0,0)).2:Nat))
def JJ (z:Nat)(w:World)(v:Value)(ns:List Nat):Prop:=(ns=[]/\∃ad c,v=.slice ad 0 c)\/
 ∃g o c,v=.slice (some ⟨g,o,none⟩) ns.length c/\ns.length<=c/\g<z/\∀j,j<ns.length->w.cell? ⟨g,o+j,none⟩=some (.int .i64 (ns.getD j 0:Nat))
theorem J7.below {z:Nat}{w w':World}{v:Value}{ps:List (Nat×Nat)}(h:J7 z w v ps)(hb:Below z w w'):J7 z w' v ps:=by
 rcases h with h|⟨g,o,c,h1,h2,h3,h4⟩
 ·exact .inl h
 ·exact .inr ⟨g,o,c,h1,h2,h3,fun j hj=>⟨(hb.cell (p:=⟨g,o+j*2,none⟩) h3).trans (h4 j hj).1,(hb.cell (p:=⟨g,o+j*2+1,none⟩) h3).trans (h4 j hj).2⟩⟩
theorem JJ.below {z:Nat}{w w':World}{v:Value}{ns:List Nat}(h:JJ z w v ns)(hb:Below z w w'):JJ z w' v ns:=by
 rcases h with h|⟨g,o,c,h1,h2,h3,h4⟩
 ·exact .inl h
 ·exact .inr ⟨g,o,c,h1,h2,h3,fun j hj=>(hb.cell (p:=⟨g,o+j,none⟩) h3).trans (h4 j hj)⟩
theorem J7.open {z:Nat}{w:World}{v:Value}{x:Nat×Nat}{ps:List (Nat×Nat)}(h:J7 z w v (x::ps)):∃g o c,v=.slice (some ⟨g,o,none⟩) (ps.length+1) c/\ps.length+1<=c/\g<z/\w.cell? ⟨g,o,none⟩=some (.int .i64 (x.1:Nat))/\w.cell? ⟨g,o+1,none⟩=some (.int .i64 (x.2:Nat))/\∀v',v'=sliced (some ⟨g,o,none⟩) 1 (ps.length+1) c 2->J7 z w v' ps:=by
 rcases h with⟨e,-⟩|⟨g,o,c,h1,h2,h3,h4⟩
 ·cases e
 ·rw[jY]at h1 h2 h4;have h0:=h4 0 (by omega);refine⟨g,o,c,h1,h2,h3,h0.1,h0.2,fun v' hv=> ?_⟩;subst hv;unfold sliced;cases ps with
  |nil=>exact .inl ⟨rfl,_,_,rfl⟩
  |cons y ps=>
   rw[jY]at h2;rw[ja (by omega)];refine .inr ⟨g,o+2,c-1,by rfl,by rw[jY];omega,h3,fun j hj=> ?_⟩;have:=h4 (j+1) (by omega);rw[show o+(j+1)*2=o+2+j*2 by omega]at this;exact this
theorem JJ.open {z:Nat}{w:World}{v:Value}{x:Nat}{ps:List Nat}(h:JJ z w v (x::ps)):∃g o c,v=.slice (some ⟨g,o,none⟩) (ps.length+1) c/\ps.length+1<=c/\g<z/\w.cell? ⟨g,o,none⟩=some (.int .i64 (x:Nat))/\∀v',v'=sliced (some ⟨g,o,none⟩) 1 (ps.length+1) c 1->JJ z w v' ps:=by
 rcases h with⟨e,-⟩|⟨g,o,c,h1,h2,h3,h4⟩
 ·cases e
 ·rw[jY]at h1 h2 h4;have h0:=h4 0 (by omega);refine⟨g,o,c,h1,h2,h3,h0,fun v' hv=> ?_⟩;subst hv;unfold sliced;cases ps with
  |nil=>exact .inl ⟨rfl,_,_,rfl⟩
  |cons y ps=>
   rw[jY]at h2;rw[ja (by omega)];refine .inr ⟨g,o+1,c-1,by rfl,by rw[jY];omega,h3,fun j hj=> ?_⟩;have:=h4 (j+1) (by omega);rw[show o+(j+1)=o+1+j by omega]at this;exact this
theorem FZ {z:Nat}{w:World}{l:ab}{vp vn:Value}(h:aE z w l vp vn):J7 w.heap.size w vp l.places/\JJ w.heap.size w vn l.next:=by
 refine⟨?_,?_⟩
 ·rcases Nat.eq_zero_or_pos l.places.length with h0|h0
  ·obtain⟨ad,c,e⟩:=a8 h.places;rw[h0]at e;exact .inl ⟨List.eq_nil_of_length_eq_zero h0,ad,c,e⟩
  ·obtain⟨g,cap,rfl,h1,h2,h3⟩:=bL h.places h0;refine .inr ⟨g,0,cap,rfl,h1,h2,fun j hj=> ?_⟩;obtain⟨g',e',-,-,-,c1,c2⟩:=bB h.places j hj;cases e'
   rw[Nat.zero_add];exact⟨c1,c2⟩
 ·rcases Nat.eq_zero_or_pos l.next.length with h0|h0
  ·obtain⟨ad,c,e⟩:=a8 h.next;rw[h0]at e;exact .inl ⟨List.eq_nil_of_length_eq_zero h0,ad,c,e⟩
  ·obtain⟨g,cap,e,h1,h2,h3⟩:=bL h.next h0;refine .inr ⟨g,0,cap,e,h1,h2,fun j hj=> ?_⟩;rw[Nat.zero_add,h3 j (by omega),df,jJ,jB hj,jA,jB hj];rfl
end El
end Go.Proofs.YtmlgajhhnojdjaaGreatDoor

import Derived.Test.YtmlgajhhnojdjaaGreatDoorVAD
import Derived.Deep.MidRow
namespace Go.Proofs.YtmlgajhhnojdjaaGreatDoor
namespace Sq
open Go
def lq (c:UInt8):Bool:=c==105||c==111||c==112||c==109
def RP.Ot (p:RP)(w:B):Nat×Nat:=((p.find (aL w)).toNat,im (partOf w))
def RP.dU (p:RP):B->List B->List (Nat×Nat)
 |[],_=>[]
 |c::f,ws=>if lq c then p.Ot (word ws 0)::RP.dU p f (ws.drop 1)else RP.dU p f (ws.drop 1)
def qX:B->List B->List Nat
 |[],_=>[]
 |c::f,ws=>if c=98 then((av (word ws 0)).getD 0).toNat::qX f (ws.drop 1)else qX f (ws.drop 1)
theorem fo {w:B}{c:UInt8}(hc:lq c=true)(h:ey w c=true):cx w=true:=by
 simp only[lq,Bool.or_eq_true,beq_iff_eq]at hc;rcases hc with((rfl|rfl)|rfl)|rfl
 ·exact(gL h).1
 ·exact(gL h).1
 ·rw[<-iq];exact h
 ·rw[<-iq];exact h
theorem qU {p:RP}{nb:Nat}:∀(f:B) (_:∀c∈f,c∈([105,111,112,109,35,98,102,118]:List UInt8)) (ws:List B) (_:aV f ws=true) (l l':ab),bV p.fO nb f ws l=some l'->
  l'.op=l.op/\l'.places=l.places++p.dU f ws/\l'.next=l.next++qX f ws/\l'.num=l.num
 |[],_,ws,_,l,l',h=>by simp only[bV,Option.some.injEq]at h;subst h;simp[RP.dU,qX]
 |c::f,hc,ws,hf,l,l',h=>by
  rw[aV,jH]at hf;have H6:=hc c (jM ..);have ih:=qU (p:=p) (nb:=nb) f (fun x hx=>hc x (jN _ hx)) (ws.drop 1) hf.2;have hw:=hf.1;rw[bV]at h;rw[RP.dU,qX];have place:lq c=true->(¬c=98)->(if cE p.fO ((bd (word ws 0)).getD ([],0)).1<0 then none
    else bV p.fO nb f (ws.drop 1) {l with places:=l.places++[((cE p.fO ((bd (word ws 0)).getD ([],0)).1).toNat,((bd (word ws 0)).getD ([],0)).2)]})=some l'->
    l'.op=l.op/\l'.places=l.places++(if lq c then p.Ot (word ws 0)::RP.dU p f (ws.drop 1)else RP.dU p f (ws.drop 1))/\l'.next=l.next++(if c=98 then((av (word ws 0)).getD 0).toNat::qX f (ws.drop 1)else qX f (ws.drop 1))/\l'.num=l.num:=by
   intro hp vj h;have dL:=og (fo hp hw);rw[dL]at h;simp only[Option.getD_some]at h;rw[find_eq]at h;split at h
   ·cases h
   ·obtain⟨a,b,d,e⟩:=ih _ _ h;rw[jb hp,ja vj];exact⟨a,by rw[b];simp[RP.Ot],d,e⟩
  simp only[List.mem_cons,List.not_mem_nil,or_false]at H6;rcases H6 with rfl|rfl|rfl|rfl|rfl|rfl|rfl|rfl
  ·exact place rfl (by decide) h
  ·exact place rfl (by decide) h
  ·exact place rfl (by decide) h
  ·exact place rfl (by decide) h
  ·rw[jb (.inl rfl)]at h;have hh:=ih _ _ h;exact hh
  ·rw[ja (by decide),ja (by decide),jb rfl]at h;rw[jb rfl];split at h
   ·cases h
   ·obtain⟨a,b,d,e⟩:=ih _ _ h;exact⟨a,b,by rw[d];simp,e⟩
  ·rw[ja (by decide),jb rfl]at h;have hh:=ih _ _ h;exact hh
  ·rw[jb (.inr rfl)]at h;have hh:=ih _ _ h;exact hh
theorem RR:∀(f:B) (_:∀c∈f,lq c=false/\c∈([35,98,102,118]:List UInt8)) (p:RP) (w1:B) (ws:List B),p.dU f ws=[]/\p.iY w1 (f.map letter) ws=true
 |[],_,_,_,_=>⟨rfl,rfl⟩
 |c::f,hc,p,w1,ws=>by
  obtain⟨h1,h2⟩:=RR f (fun x hx=>hc x (jN _ hx)) p w1 (ws.drop 1);obtain⟨hp,hk⟩:=hc c (jM ..);rw[RP.dU,List.map_cons,RP.iY,hp,h1,h2];refine⟨rfl,?_⟩;simp only[List.mem_cons,List.not_mem_nil,or_false]at hk;rcases hk with rfl|rfl|rfl|rfl<;>rfl
theorem BB {p:RP}(H:o8 p){q:QP}(hq:q.locals=p.fO)(w1:B)(C:B)(hC:∀c∈C,lq c=false/\c∈([35,98,102,118]:List UInt8))(F:B):
  ∀(A:B) (_:∀c∈A,c∈([105,111,112]:List UInt8)) (ws:List B) (k:Nat) (_:F.drop k=A++C) (_:aV (A++C) ws=true) (_:p.fw ((A++C).map letter) ws=true),
   p.iY w1 ((A++C).map letter) ws=q.cQ F (p.dU (A++C) ws) k
 |[],_,ws,k,_,_,_=>by
  obtain⟨h1,h2⟩:=RR C hC p w1 ws;rw[List.nil_append,h1,h2];rfl
 |c::A,hA,ws,k,hF,hf,hn=>by
  have hc:=hA c (jM ..);have dL:lq c=true:=by
   simp only[List.mem_cons,List.not_mem_nil,or_false]at hc;rcases hc with rfl|rfl|rfl<;>rfl
  have Ab:letter c=c:=by
   simp only[List.mem_cons,List.not_mem_nil,or_false]at hc;rcases hc with rfl|rfl|rfl<;>rfl
  rw[jW,aV,jH]at hf;rw[jW,List.map_cons,RP.fw,jH,Ab]at hn;have QU:0<=p.find (aL (word ws 0)):=RP.iT hn.1 (by
   simp only[List.mem_cons,List.not_mem_nil,or_false]at hc⊢;rcases hc with h|h|h<;>simp[h])
  have Xs:F.getD k 0=c:=by
   have:F[k]?=(F.drop k)[0]?:=by simp
   rw[jA,this,hF];rfl
  have ih:=BB H hq w1 C hC F A (fun x hx=>hA x (jN _ hx)) (ws.drop 1) (k+1) (by rw[<-List.drop_drop,hF];rfl) hf.2 hn.2;rw[jW,List.map_cons,RP.iY,RP.dU,dL,jb rfl,QP.cQ,Xs,ih,Ab,GB H hq QU (fo dL hf.1) hc];rfl
theorem BC {op:Nat}(h:op<23)(h2:2<=op)(cV:¬op=12)(lz:¬op=15):
  (∀c∈(ae op).takeWhile lq,c∈([105,111,112]:List UInt8))/\(∀c∈(ae op).dropWhile lq,lq c=false/\c∈([35,98,102,118]:List UInt8)):=by
 have:∀op:Fin 23,2<=op.val->¬op.val=12->¬op.val=15->
  (∀c∈(ae op.val).takeWhile lq,c∈([105,111,112]:List UInt8))/\(∀c∈(ae op.val).dropWhile lq,lq c=false/\c∈([35,98,102,118]:List UInt8)):=by decide
 exact this ⟨op,h⟩ h2 cV lz
theorem Bi {p:RP}(H:o8 p){j:Nat}(hj:j<p.lines.length)(hp:p.plain j=true)(hn:p.names j=true):∃op,cz (word (p.line j) 0)=some op/\op<23/\2<=op/\(p.lh j).op=op/\(p.lh j).num=j/\
  (p.lh j).places=p.dU (ae op) ((p.line j).drop 1)/\(p.lh j).next=qX (ae op) ((p.line j).drop 1)/\aV (ae op) ((p.line j).drop 1)=true/\(behind (word (p.line j) 0) p.raw).1=dc op/\
  p.fw (dc op) ((p.line j).drop 1)=true:=by
 obtain⟨op,ho,hl,h⟩:=pF H hj;obtain⟨h2,hf,hb,-⟩:=h hp;have hs:p.du j=(op,(p.line j).drop 1):=by rw[RP.du,ho];rfl
 have MN:=tn H hj hp;rw[hn]at MN;obtain⟨l,NZ⟩:=Option.isSome_iff_exists.mp MN;have hq:p.lh j={l with num:=j}:=by rw[RP.lh,NZ];rfl
 rw[hs,cU]at NZ;obtain⟨a,b,c,-⟩:=qU _ (rk hl h2) _ hf _ _ NZ;have Ab:¬word (p.line j) 0=eD:=by
  simp only[RP.plain,isLet,Bool.and_eq_true,Bool.not_eq_true',beq_eq_false_iff_ne,ne_eq]at hp;exact hp.1
 have E4:=RP.IV hn Ab;rw[hb]at E4;refine⟨op,ho,hl,h2,by rw[hq];exact a,by rw[hq],?_,?_,hf,hb,E4⟩
 ·rw[hq];simpa using b
 ·rw[hq];simpa using c
theorem CL {p:RP}(H:o8 p){q:QP}(hq:q.locals=p.fO){j:Nat}(hj:j<p.lines.length)(hp:p.plain j=true)(hn:p.names j=true):q.fits (p.lh j)=p.types j:=by
 obtain⟨op,ho,hl,h2,aH,-,dL,-,hf,hb,E4⟩:=Bi H hj hp hn;rw[QP.fits,aH,dL,RP.types,hb];generalize hW:(p.line j).drop 1=ws at hf E4⊢;by_cases cV:op=12
 ·subst cV;have Od:ae 12=[109,109]:=rfl;have H4:dc 12=[109,109]:=rfl;rw[H4]at E4⊢;rw[Od]at hf⊢;simp only[aV,Bool.and_eq_true,Bool.and_true]at hf;simp only[RP.fw,Bool.and_eq_true,Bool.and_true]at E4;have f1:=RP.iT E4.1 (by simp);have f2:=RP.iT E4.2 (by simp);have p1:=fo (c:=109) rfl hf.1;have p2:=fo (c:=109) rfl hf.2;have w1:word (p.line j) 1=word ws 0:=by rw[<-hW];simp[word]
  simp only[RP.iY,RP.dU,Bool.and_true,w1];have e1:lq 109=true:=rfl;simp only[e1,if_true,QP.cQ,Bool.and_true,List.getD_cons_zero,List.getD_cons_succ];by_cases hk:q.aZ (p.Ot (word ws 0)) 109=true
  ·rw[ri H hq f1 p1 f1 p1 hk,ri H hq f2 p2 f1 p1 hk];have la:q.aZ ((p.find (aL (word ws 0))).toNat,im (partOf (word ws 0))) 109=true:=hk;rw[hk,la];simp[RP.Ot]
  ·rw[Bool.not_eq_true]at hk;have:p.fV 109 (word ws 0) (word ws 0)=false:=by
    rcases pB H hq f1 p1 with⟨g1,g2⟩|⟨t,ht,g1,g2,g3⟩
    ·rw[RP.fV,g2];rfl
    ·rw[RP.Ot,QP.aZ,g1]at hk;have p7:t=0:=by
      have la:(!(t==0))=false:=hk;simpa using la
     rw[RP.fV,g2,p7];rfl
   rw[hk,this];simp
 ·by_cases lz:op=15
  ·subst lz;have Od:ae 15=[109]:=rfl;have H4:dc 15=[100]:=rfl;rw[H4]at E4⊢;rw[Od]at hf⊢;simp only[aV,Bool.and_true]at hf;simp only[RP.fw,Bool.and_true]at E4;have f1:=RP.iT E4 (by simp);have p1:=fo (c:=109) rfl hf;simp only[RP.iY,Bool.and_true,RP.dU];rw[Bz H hq f1 p1];have e1:lq 109=true:=rfl;simp[e1,QP.cQ,RP.Ot]
  ·have H4:dc op=(ae op).map letter:=by rw[dc,ja lz]
   rw[H4]at E4⊢;obtain⟨hA,hC⟩:=BC hl h2 cV lz;have qm:(ae op).takeWhile lq++(ae op).dropWhile lq=ae op:=List.takeWhile_append_dropWhile;have:=BB H hq (word (p.line j) 1) _ hC (ae op) _ hA ws 0 (by rw[List.drop_zero,qm]) (by rw[qm];exact hf) (by rw[qm];exact E4);rw[qm]at this;rw[this];have:(op==12)=false:=by simp[cV]
   rw[this];simp
theorem GD {p:RP}(H:o8 p){q:QP}(R:LR p q p.lines.length)(hn:∀j,j<p.lines.length->p.names j=true):q.misfit=de p.gM p.lines.length 0:=by
 have NY:q.locals=p.fO:=by
  rw[R.locals,RP.fO,List.filter_eq_self.mpr];intro t ht;rw[H.lets]at ht;simp[(eA ht).1]
 have key:∀(m k:Nat),k+m=p.lines.length->(((((List.range p.lines.length).drop k).filter p.plain).map p.lh).find? fun l=> !q.fits l).map (·.num)=de p.gM m k:=by
  intro m;induction m with
  |zero=>intro k hk;rw[jT (by simp;omega)];rfl
  |succ m ih=>
   intro k hk;have Cm:k<p.lines.length:=by omega
   rw[jE (by simpa using Cm),List.getElem_range,List.filter_cons,de];cases hp:p.plain k
   ·have Pv:p.gM k=true:=by
     simp only[RP.plain,isLet,bm,Bool.and_eq_false_iff,Bool.not_eq_false']at hp;rw[RP.gM];rcases hp with h|h<;>simp[h]
    rw[ja (by simp),Pv,jb rfl];exact ih (k+1) (by omega)
   ·have Pv:p.gM k=p.types k:=by
     simp only[RP.plain,isLet,bm,Bool.and_eq_true,Bool.not_eq_true']at hp;rw[RP.gM,hp.1,hp.2];rfl
    have hf:=CL H NY Cm hp (hn k Cm);rw[jb rfl,List.map_cons,List.find?_cons,Pv,hf];cases ht:p.types k
    ·simp[RP.lh]
    ·simpa using ih (k+1) (by omega)
 rw[QP.misfit,R.flat];have:=key p.lines.length 0 (by omega);rw[List.drop_zero]at this;exact this
def ax (text:B)(raw:Bool):Option QP×Nat×Nat:=
 if(split 10 text).length>(if raw then 4000 else 120)then(none,1,0)
 else match (ar raw (ba text) ⟨0,0,0⟩ 0).2.2 with
  |some k=>(none,2,k)
  |none=>
   if¬(ar raw (ba text) ⟨0,0,0⟩ 0).2.1.sec=2 then(none,2,(split 10 text).length)
   else match (aJ (countB (ar raw (ba text) ⟨0,0,0⟩ 0).1) (ar raw (ba text) ⟨0,0,0⟩ 0).1 0 QP.empty).2 with
    |some k=>(none,3,k)
    |none=>match (aJ (countB (ar raw (ba text) ⟨0,0,0⟩ 0).1) (ar raw (ba text) ⟨0,0,0⟩ 0).1 0 QP.empty).1.misfit with
     |some k=>(none,4,k)
     |none=>(some (aJ (countB (ar raw (ba text) ⟨0,0,0⟩ 0).1) (ar raw (ba text) ⟨0,0,0⟩ 0).1 0 QP.empty).1,0,0)
theorem qx (text:B)(raw:Bool):(ax text raw).2=(bP text raw).2/\∀q,(ax text raw).1=some q->∃p,(bP text raw).1=some p/\LR p q p.lines.length:=by
 by_cases hlong:(split 10 text).length>(if raw then 4000 else 120)
 ·have h':4000<(split 10 text).length\/(raw=false/\120<(split 10 text).length):=by
   cases raw
   ·exact .inr ⟨rfl,by simpa using hlong⟩
   ·exact .inl (by simpa using hlong)
  rw[ax,jb hlong,bP,jb h'];exact⟨rfl,fun q h=>by cases h⟩
 ·have h':¬(4000<(split 10 text).length\/(raw=false/\120<(split 10 text).length)):=by
   cases raw
   ·simp at hlong⊢;omega
   ·simp at hlong⊢;omega
  obtain⟨hs,hn⟩:=oU raw (ba text) (Sq.start raw) ⟨0,0,0⟩ rfl (jh.start raw) (by simp) (fun ws hw=>by
   simp only[ba,List.mem_map]at hw;obtain⟨a,-,rfl⟩:=hw;exact fx _ _)
  have mW:(Sq.start raw).lines.length=0:=rfl;rw[mW]at hs hn;rw[ax,ja hlong,bP,ja h'];cases qm:(ar raw (ba text) ⟨0,0,0⟩ 0).2.2 with
  |some k=>
   obtain⟨q,hq⟩:=hs k qm;rw[hq];exact⟨rfl,fun q h=>by cases h⟩
  |none=>
   obtain⟨p,hp,R,lo,Cr⟩:=hn qm;rw[hp];obtain⟨H,E8,cD⟩:=o8.read (ba text) (Sq.start raw) p (o8.start raw) hp;have yq:p.lines=ba text:=by rw[cD];rfl
   have hlen:p.lines.length=(split 10 text).length:=by rw[yq,iz]
   have BI:=R.Ir;have Hx:=R.I2;simp only;rw[hlen]at BI;by_cases hd:(ar raw (ba text) ⟨0,0,0⟩ 0).2.1.sec=2
   ·have hx:¬(p.inside (split 10 text).length=true\/p.blocks.length=0):=by
     rintro(h|h)
     ·have:=BI.mpr h;omega
     ·have:=Hx.mpr h;omega
    rw[ja (by simp[hd]),ja hx];have hS:(ar raw (ba text) ⟨0,0,0⟩ 0).1=(List.range p.lines.length).map p.du:=by
     rw[Cr];apply List.ext_getElem
     ·simp[yq]
     ·intro i h1 h2;simp only[List.length_map]at h1;rw[List.getElem_map,List.getElem_map,List.getElem_range,RP.du];have:p.line i=(ba text)[i]:=by rw[RP.line,yq,jA,jB h1];rfl
      rw[this]
    have Cj:countB (ar raw (ba text) ⟨0,0,0⟩ 0).1=p.blocks.length:=by
     rw[hS,countB,H.blocks,RP.cG,List.filter_map,jc];congr 1;apply List.filter_congr
     intro j hj;have rI:j<p.lines.length:=by simpa using hj
     obtain⟨op,ho,-,-⟩:=pF H rI;have hb:=jx ho;simp only[Function.comp,RP.du,ho,Option.getD_some];rw[jX];simp only[beq_iff_eq,bm];exact hb.symm
    have ld:=kK H p.lines.length 0 QP.empty (by omega) (LR.start p);rw[List.drop_zero]at ld;rw[Cj,hS,ld.1,hlen];cases hfn:de p.names (split 10 text).length 0 with
    |some k=>exact⟨rfl,fun q h=>by cases h⟩
    |none=>
     have hR:=ld.2 (by rw[hlen];exact hfn);have N0:∀j,j<p.lines.length->p.names j=true:=fun j hj=>vD p.names _ 0 hfn j (by omega) (by omega)
     have GP:=GD H hR N0;simp only;rw[hlen]at GP;rw[<-hlen]at GP⊢;rw[GP];cases de p.gM p.lines.length 0 with
     |some k=>exact⟨rfl,fun q h=>by cases h⟩
     |none=>exact⟨rfl,fun q h=>by cases h;exact⟨p,rfl,hR⟩⟩
   ·have hx:p.inside (split 10 text).length=true\/p.blocks.length=0:=by
     rcases Nat.lt_or_ge (ar raw (ba text) ⟨0,0,0⟩ 0).2.1.sec 1 with h|h
     ·exact .inr (Hx.mp (by omega))
     ·exact .inl (BI.mp (by omega))
    rw[jb hd,jb hx];exact⟨rfl,fun q h=>by cases h⟩
end Sq
namespace PrjF
open Go Go.RowKit Sq
def dF:List Value:=dh.flatMap fun x=>[.string (bs x.1),.string (bs x.2)]
def gS:List Value:=bZ.map fun x=> .string (bs x)
def mn (w:World):Prop:=w.rangeAt 0 0 dF
def o7 (w:World):Prop:=w.rangeAt 1 0 gS
theorem Ap:(Tryz.prog.info? 148).map (·.size)=some dF.length:=by kernel_rfl
theorem Cx:(Tryz.prog.info? 149).map (·.size)=some gS.length:=by kernel_rfl
theorem tq (w:World)(h:mn w):(loadVar 148 ⟨0,0,none⟩).run Tryz.prog w=.ok (.agg dF.toArray) w:=
 run_loadVar_mid w 0 0 148 dF _ h Tryz.underlying148 rfl Ap
theorem vQ (w:World)(h:o7 w):(loadVar 149 ⟨1,0,none⟩).run Tryz.prog w=.ok (.agg gS.toArray) w:=
 run_loadVar_mid w 1 0 149 gS _ h Tryz.underlying149 rfl Cx
section
variable (d:Option Tmp) (t:TypeId) (ps:String) (af:Array Edge) (g:Option (Nat×Bool)) (a:Act) (w:World) (K:Act->World->Prop) (Q:Exit->Act->World->Prop)
theorem vh (h:mn w):Oper.wp Tryz.prog {dst:=d,op:=Op.load 148 (Operand.global 0),type:=t,pos:=ps,after:=af,guard:=g} a w K Q=K (a.put d (.agg dF.toArray)) w:=by
 have:=tq w h;have he:a.eval (Operand.global 0)=.pointer (some ⟨0,0,none⟩):=rfl;unfold Oper.wp execOp;simp only[he,Instr.loadAt,Instr.sureAddr,Sem.run_bind,Sem.run_pure,Result.andThen_ok,this];rfl
theorem vY (h:o7 w):Oper.wp Tryz.prog {dst:=d,op:=Op.load 149 (Operand.global 1),type:=t,pos:=ps,after:=af,guard:=g} a w K Q=K (a.put d (.agg gS.toArray)) w:=by
 have:=vQ w h;have he:a.eval (Operand.global 1)=.pointer (some ⟨1,0,none⟩):=rfl;unfold Oper.wp execOp;simp only[he,Instr.loadAt,Instr.sureAddr,Sem.run_bind,Sem.run_pure,Result.andThen_ok,this];rfl
end
theorem yx (k:Nat)(hk:k<23)(w:World):Sem.run Tryz.prog (Instr.index 148 (.agg dF.toArray) (.int .i64 k)) w=.ok (.agg #[.string (bs (bD k)),.string (bs (ae k))]) w:=by
 have h:k=0\/k=1\/k=2\/k=3\/k=4\/k=5\/k=6\/k=7\/k=8\/k=9\/k=10\/k=11\/k=12\/k=13\/k=14\/k=15\/k=16\/k=17\/k=18\/k=19\/k=20\/k=21\/k=22:=by omega
 rcases h with rfl|rfl|rfl|rfl|rfl|rfl|rfl|rfl|rfl|rfl|rfl|rfl|rfl|rfl|rfl|rfl|rfl|rfl|rfl|rfl|rfl|rfl|rfl<;>(refine Eq.trans ?_ rfl;kernel_rfl)
theorem Am (k:Nat)(hk:k<4)(w:World):Sem.run Tryz.prog (Instr.index 149 (.agg gS.toArray) (.int .i64 k)) w=.ok (.string (bs (kindWord k))) w:=by
 have h:k=0\/k=1\/k=2\/k=3:=by omega
 rcases h with rfl|rfl|rfl|rfl<;>(refine Eq.trans ?_ rfl;kernel_rfl)
theorem Ai (tab:List B)(l:B)(k:Nat)(hk:k<tab.length):iP (tab.drop k) l k=if tab.getD k []=l then some k else iP (tab.drop (k+1)) l (k+1):=by
 rw[jE hk,iP,jA,jB hk];rfl
attribute [local go_sem ↓] vh vY
set_option maxRecDepth 20000 in
theorem IX (l:B)(w:World)(hs:mn w):
  Calls Tryz.prog 196 #[.string (bs l)] w fun e w'=>e=.returned (.tuple #[.int .i64 ((cz l).getD 0:Nat),.bool (cz l).isSome])/\Below w.heap.size w w':=by
 have ht:=bp l;go_enter Tryz.func196,Tryz.ntmps196
 go_wp2
 go_loopw [7] (fun i wr=>∃k:Nat,k<=23/\i=.int .i64 k/\Hid (cz l=iP ((dh.map (·.1)).drop k) l k)/\Below w.heap.size w wr) (fun i _=>23-(intOf i).toNat)
 case atStart=>exact⟨0,by omega,rfl,rfl,Below.refl _ _⟩
 case round=>
  obtain⟨k,hk,rfl,HI,hb⟩:=hrel;by_cases aP:k<23
  ·have X4:=yx k aP wr;have HS:Hid (_=_):=Ai (dh.map (·.1)) l k aP;have hg:Hid ((dh.map (·.1)).getD k []=bD k):=by
    unfold Hid bD;have hl:k<dh.length:=aP;simp[List.getD_eq_getElem?_getD,hl]
   have Wo:=bp (bD k);by_cases hq:bD k=l
   ·have BN:(bD k==l)=true:=by simp[hq]
    have HQ:Hid (bD k=l):=hq;clear hq;go_wp2
    go_ret2
    have e:cz l=some k:=by rw[HI.out,HS.out,jb (by rw[hg.out];exact HQ.out)]
    exact⟨by rw[e];rfl,hb.alloc hb.size _⟩
   ·have BN:(bD k==l)=false:=by simp[hq]
    have HQ:Hid (¬bD k=l):=hq;clear hq;go_wp2
    go_roundw
    case rel=>exact⟨k+1,by omega,by go_num,by unfold Hid;rw[HI.out,HS.out,ja (by rw[hg.out];exact HQ.out)],hb.alloc hb.size _⟩
    case measure=>simp[intOf];omega
  ·obtain rfl:k=23:=by omega
   go_wp2
   go_ret2
   have e:cz l=none:=by rw[HI.out];rfl
   exact⟨by rw[e];rfl,hb⟩
set_option maxRecDepth 20000 in
theorem vc (l:B)(w:World)(hs:o7 w):
  Calls Tryz.prog 169 #[.string (bs l)] w fun e w'=>e=.returned (.tuple #[.int .i64 ((c7 l).getD 0:Nat),.bool (c7 l).isSome])/\Below w.heap.size w w':=by
 have ht:=bp l;go_enter Tryz.func169,Tryz.ntmps169
 go_wp2
 go_loopw [7] (fun i wr=>∃k:Nat,k<=4/\i=.int .i64 k/\Hid (c7 l=iP (bZ.drop k) l k)/\Below w.heap.size w wr) (fun i _=>4-(intOf i).toNat)
 case atStart=>exact⟨0,by omega,rfl,rfl,Below.refl _ _⟩
 case round=>
  obtain⟨k,hk,rfl,HI,hb⟩:=hrel;by_cases aP:k<4
  ·have X4:=Am k aP wr;have HS:Hid (_=_):=Ai bZ l k aP;have hg:Hid (bZ.getD k []=kindWord k):=rfl;have Wo:=bp (kindWord k);by_cases hq:kindWord k=l
   ·have BN:(kindWord k==l)=true:=by simp[hq]
    have HQ:Hid (kindWord k=l):=hq;clear hq;go_wp2
    go_ret2
    have e:c7 l=some k:=by rw[HI.out,HS.out,jb (by rw[hg.out];exact HQ.out)]
    exact⟨by rw[e];rfl,hb⟩
   ·have BN:(kindWord k==l)=false:=by simp[hq]
    have HQ:Hid (¬kindWord k=l):=hq;clear hq;go_wp2
    go_roundw
    case rel=>exact⟨k+1,by omega,by go_num,by unfold Hid;rw[HI.out,HS.out,ja (by rw[hg.out];exact HQ.out)],hb⟩
    case measure=>simp[intOf];omega
  ·obtain rfl:k=4:=by omega
   go_wp2
   go_ret2
   have e:c7 l=none:=by rw[HI.out];rfl
   exact⟨by rw[e];rfl,hb⟩
end PrjF
end Go.Proofs.YtmlgajhhnojdjaaGreatDoor

import Derived.Test.YtmlgajhhnojdjaaGreatDoorUBL
set_option maxHeartbeats 8000000
namespace Go.Proofs.YtmlgajhhnojdjaaGreatDoor
namespace El
open Go Sq Aux RefRa PrjS RunA MadA Bal
theorem yV {α β:Type}{f g:α->List β}:∀(L:List α),(∀b∈L,f b=g b)->L.flatMap f=L.flatMap g
 |[],_=>rfl
 |b::L,h=>by rw[List.flatMap_cons,List.flatMap_cons,h b (jM ..),yV L (fun c hc=>h c (jN _ hc))]
def eS (q:QP):List B:=q.locals.map sJ++q.blocks.flatMap (fun b=>cM::b.map (oW q.locals))
def mT (q:QP):B:=Lib.join (eS q) [10]
def IS (x:B×Nat):Nat×List B:=(0,[x.1,cN.getD x.2 []])
def sL (ls:List (B×Nat))(l:ab):Nat×List B:=(l.op,aY ls l.number l.flag (ah l.op) l.places l.next)
structure fO (q:QP):Prop where
 names:∀x∈q.locals,isName x.1=true
 types:∀x∈q.locals,x.2<=3
 nodup:(q.locals.map (·.1)).Nodup
 l1:0<q.locals.length
 IP:q.locals.length<=12
 b1:0<q.blocks.length
 sum:q.locals.length+q.blocks.length+q.blocks.flatten.length<=4000
 raw:SZ q
section
variable {q:QP}
theorem fO.two (h:fO q):2*q.blocks.length<=q.blocks.length+q.blocks.flatten.length:=by
 have key:∀L:List (List ab),(∀b∈L,1<=b.length)->L.length<=L.flatten.length:=fun L hL=>by
  induction L with
  |nil=>simp
  |cons a L ih=>
   have:=ih (fun b hb=>hL b (jN _ hb));have:=hL a (jM ..);rw[jY,List.flatten_cons,jV];omega
 have:=key q.blocks (fun b hb=>by
  obtain⟨k,hk,rfl⟩:=List.getElem_of_mem hb;have:=h.raw.whole k hk;rw[jA,jB hk]at this;obtain⟨ls,l,e,-⟩:=this;have e':q.blocks[k]=ls++[l]:=e;rw[e'];simp)
 omega
theorem BI {L:List (List ab)}{b:List ab}(hb:b∈L):∃k,k<L.length/\L.getD k []=b:=by
 obtain⟨k,hk,rfl⟩:=List.getElem_of_mem hb;exact⟨k,hk,by rw[jA,jB hk];rfl⟩
theorem fO.line (h:fO q){b:List ab}(hb:b∈q.blocks){l:ab}(hl:l∈b):RL q q.blocks.length l:=by
 obtain⟨k,-,e⟩:=BI hb;exact h.raw.lines k l (by rw[e];exact hl)
theorem fO.mc (h:fO q):q.blocks.length<=2000:=by have:=h.two;have:=h.sum;omega
theorem rY (h:fO q):∀t∈eS q,¬(10:UInt8)∈t/\t.length<=88:=fun t ht=>by
 have hf:=h.mc;rcases List.mem_append.1 ht with ht|ht
 ·obtain⟨x,hx,rfl⟩:=List.mem_map.1 ht;exact⟨US (h.names x hx) (h.types x hx),PE (h.names x hx) (h.types x hx)⟩
 ·obtain⟨b,hb,ht⟩:=List.mem_flatMap.1 ht;rcases jP.1 ht with rfl|ht
  ·exact⟨by decide,by decide⟩
  ·obtain⟨l,hl,rfl⟩:=List.mem_map.1 ht;have hr:=(h.line hb hl).told;exact⟨Sk h.names (by omega) hr,Ms h.names (by omega) hr⟩
theorem pA (ls:List (B×Nat)):∀L:List (List ab),(L.flatMap (fun b=>cM::b.map (oW ls))).length=L.length+L.flatten.length
 |[]=>rfl
 |b::L=>by
  rw[List.flatMap_cons,jV,pA ls L,List.flatten_cons,jV,jY,jc,jY];omega
theorem oO (q:QP):(eS q).length=q.locals.length+q.blocks.length+q.blocks.flatten.length:=by
 unfold eS;rw[jV,jc,pA];omega
theorem Aw (h:fO q):split 10 (mT q)=eS q:=by
 have hl:=oO q;have h1:=h.l1;unfold mT;cases e:eS q with
 |nil=>rw[e]at hl;simp at hl;omega
 |cons a l=>exact gL 10 l a (fun b hb=>(rY h b (by rw[e];exact hb)).1)
theorem Nt (h:fO q):(mT q).length<=400000:=by
 have:=mz (n:=88) 10 (eS q) (fun b hb=>(rY h b hb).2);rw[oO]at this;have:=h.sum;unfold mT;omega
theorem Jz (h:fO q):br (mT q)=q.locals.map zA++q.blocks.flatMap (fun b=>[cM]::b.map (fA q.locals)):=by
 have hf:=h.mc;unfold br;rw[Aw h,eS,List.map_append,List.map_map];congr 1
 ·refine List.map_congr_left fun x hx=> ?_
  exact Mq (h.names x hx) (h.types x hx)
 ·rw[List.map_flatMap];refine yV q.blocks fun b hb=> ?_
  rw[List.map_cons,List.map_map];congr 1;refine List.map_congr_left fun l hl=> ?_
  exact IW h.names (by omega) (h.line hb hl).told
end
theorem Am (r:List (List B)):∀(ls:List (B×Nat)) (n i:Nat),(∀x∈ls,isName x.1=true/\x.2<=3)->n+ls.length<=12->
  ay true (ls.map zA++r) ⟨0,n,0⟩ i=(ls.map IS++(ay true r ⟨0,n+ls.length,0⟩ (i+ls.length)).1,(ay true r ⟨0,n+ls.length,0⟩ (i+ls.length)).2)
 |[],n,i,_,_=>rfl
 |x::ls,n,i,h,hn=>by
  obtain⟨h1,h2⟩:=h x (jM ..);rw[jY]at hn⊢;have ih:=Am r ls (n+1) (i+1) (fun y hy=>h y (jN _ hy)) (by omega);have ha:aD true ⟨0,n,0⟩ 0=(⟨0,n+1,0⟩,true):=by
   unfold aD;rw[ja (by decide),jb rfl];have:decide (n+1<=12)=true:=by rw[decide_eq_true_eq];omega
   simp only[this];rfl
  rw[List.map_cons,jW,ay,PF h1 h2];simp only[ha,if_true];rw[ih,List.map_cons,jW,show n+1+ls.length=n+(ls.length+1) by omega,show i+1+ls.length=i+(ls.length+1) by omega];rfl
theorem xz {ls:List (B×Nat)}(kp:∀x∈ls,isName x.1=true){nb:Nat}(tC:nb<=1000000000)(r:List (List B))(n k:Nat):∀(b:List ab) (i:Nat),(∀l∈b,Told ls nb l/\iq true l.op=true/\l.op<18)->
  ay true (b.map (fA ls)++r) ⟨1,n,k⟩ i=(b.map (sL ls)++(ay true r ⟨1,n,k⟩ (i+b.length)).1,(ay true r ⟨1,n,k⟩ (i+b.length)).2)
 |[],i,_=>rfl
 |l::b,i,h=>by
  obtain⟨h1,h2,h3⟩:=h l (jM ..);have ih:=xz kp tC r n k b (i+1) (fun y hy=>h y (jN _ hy));have h4:=h1.ok.Kp;have ha:aD true ⟨1,n,k⟩ l.op=(⟨1,n,k⟩,true):=by
   unfold aD;rw[h2,ja (by decide),ja (by omega),ja (by omega),ja (fun h=>h rfl),ja (by omega)]
  rw[List.map_cons,jW,ay,Ah kp tC h1];simp only[ha,if_true];rw[ih,jY,List.map_cons,jW,show i+1+b.length=i+(b.length+1) by omega];rfl
theorem th {ls:List (B×Nat)}(kp:∀x∈ls,isName x.1=true){nb:Nat}(tC:nb<=2000){n:Nat}(hn:0<n):∀(L:List (List ab)) (k i s:Nat),¬s=1->k+L.length<=nb->(∀b∈L,Whole b/\∀l∈b,Told ls nb l/\iq true l.op=true)->
  ay true (L.flatMap (fun b=>[cM]::b.map (fA ls))) ⟨s,n,k⟩ i=(L.flatMap (fun b=>(1,[])::b.map (sL ls)),⟨if L=[]then s else 2,n,k+L.length⟩,none)
 |[],k,i,s,_,_,_=>rfl
 |b::L,k,i,s,hs,hk,h=>by
  obtain⟨⟨c,e,rfl,kK,hc⟩,hl⟩:=h b (jM ..);rw[jY]at hk;have ih:=fun i=>th kp tC hn L (k+1) i 2 (by decide) (by omega) (fun y hy=>h y (jN _ hy))
  obtain⟨he1,he2⟩:=hl e (by simp);have ha:aD true ⟨s,n,k⟩ 1=(⟨1,n,k+1⟩,true):=by
   unfold aD;rw[ja (by decide),ja (by decide),jb rfl];have h1:decide (0<n)=true:=by rw[decide_eq_true_eq];exact hn
   have h2:(s==1)=false:=by rw[jZ];exact hs
   have h3:decide (k+1<=2000)=true:=by rw[decide_eq_true_eq];omega
   show((⟨1,n,k+1⟩:eA),decide (0<n)&& !(s==1)&&decide (k+1<=2000))=_
   rw[h1,h2,h3];rfl
  have hb:aD true ⟨1,n,k+1⟩ e.op=(⟨2,n,k+1⟩,true):=by
   unfold aD;rw[he2,ja (by decide),ja (by omega),ja (by omega),ja (fun h=>h rfl),jb kK]
  have hw:db [cM]=some (1,[]):=by decide
  rw[List.flatMap_cons,jW,ay,hw];simp only[ha,if_true];rw[List.map_append,List.append_assoc,xz kp (nb:=nb) (by omega) _ n (k+1) c (i+1) (fun l hm=>⟨(hl l (by simp[hm])).1,(hl l (by simp[hm])).2,hc l hm⟩)];have e2:List.map (fA ls) [e]++L.flatMap (fun b=>[cM]::b.map (fA ls))=fA ls e::L.flatMap (fun b=>[cM]::b.map (fA ls)):=rfl;rw[e2,ay,Ah kp (by omega) he1];simp only[hb,if_true,ih];rw[List.flatMap_cons,List.map_append,jY];simp only[List.cons_append,List.append_assoc,List.map_cons,List.map_nil,List.nil_append,Prod.mk.injEq];refine⟨by rfl,?_,by trivial⟩;simp only[reduceCtorEq,if_false];rw[show k+1+L.length=k+(L.length+1) by omega];split<;>rfl
def Aj (q:QP):List (Nat×List B):=q.locals.map IS++q.blocks.flatMap (fun b=>(1,[])::b.map (sL q.locals))
theorem Jy {q:QP}(h:fO q):ay true (br (mT q)) ⟨0,0,0⟩ 0=(Aj q,⟨2,q.locals.length,q.blocks.length⟩,none):=by
 have hb:=h.b1;rw[Jz h,Am _ q.locals 0 0 (fun x hx=>⟨h.names x hx,h.types x hx⟩) (by have:=h.IP;omega),Nat.zero_add];rw[th h.names (nb:=q.blocks.length) h.mc h.l1 q.blocks 0 q.locals.length 0 (by decide) (by omega) (fun b hb=> ?_)]
 ·have:¬q.blocks=[]:=fun e=>by rw[e]at hb;simp at hb
  rw[ja this,Nat.zero_add];rfl
 ·obtain⟨k,hk,e⟩:=BI hb;exact⟨by rw[<-e];exact h.raw.whole k hk,fun l hl=>⟨(h.line hb hl).told,(h.line hb hl).has⟩⟩
theorem lD (ls:List (B×Nat)):∀L:List (List ab),(∀b∈L,∀l∈b,2<=l.op)->countB (L.flatMap (fun b=>(1,[])::b.map (sL ls)))=L.length
 |[],_=>rfl
 |b::L,h=>by
  have ih:=lD ls L (fun c hc=>h c (jN _ hc));unfold countB at ih⊢;rw[List.flatMap_cons,List.filter_append,jV,ih,List.filter_cons];have e:((b.map (sL ls)).filter fun x=>x.1==1)=[]:=by
   rw[List.filter_eq_nil_iff];intro x hx;obtain⟨l,hl,rfl⟩:=List.mem_map.1 hx;have:=h b (jM ..) l hl;show¬(l.op==1)=true
   rw[beq_iff_eq];omega
  rw[e];simp only[beq_self_eq_true,if_true,List.length_cons,List.length_nil];omega
theorem Jw {q:QP}(h:fO q):countB (Aj q)=q.blocks.length:=by
 unfold Aj;have e:((q.locals.map IS).filter fun x=>x.1==1)=[]:=by
  rw[List.filter_eq_nil_iff];intro x hx;obtain⟨l,hl,rfl⟩:=List.mem_map.1 hx;show¬((0:Nat)==1)=true
  decide
 have:=lD q.locals q.blocks (fun b hb l hl=>(h.line hb hl).told.ok.Kp);unfold countB at this⊢;rw[List.filter_append,jV,e,this];simp
def FX:Nat->List ab->List ab
 |_,[]=>[]
 |i,l::b=>{l with num:=i}::FX (i+1) b
def x4:Nat->List (List ab)->List (List ab)
 |_,[]=>[]
 |i,b::L=>FX (i+1) b::x4 (i+1+b.length) L
theorem Cg (nb:Nat)(r:List (Nat×List B)):∀(ls L:List (B×Nat)) (i:Nat),((L++ls).map (·.1)).Nodup->(∀x∈ls,x.2<=3)->aR nb (ls.map IS++r) i ⟨L,[]⟩=aR nb r (i+ls.length) ⟨L++ls,[]⟩
 |[],L,i,_,_=>by rw[List.append_nil];rfl
 |x::ls,L,i,AK,h=>by
  have h3:=h x (jM ..);have kp:¬x.1∈L.map (·.1):=fun hm=>by
   rw[List.map_append,List.nodup_append]at AK;exact AK.2.2 x.1 hm x.1 (by simp) rfl
  have hno:∀(L:List (B×Nat)) (k:Nat),¬x.1∈L.map (·.1)->bz L x.1 k= -1:=fun L=>by
   induction L with
   |nil=>intro k _;rfl
   |cons y L ih=>
    intro k hm;rw[List.map_cons,jP,not_or]at hm;rw[bz,ja (fun e=>hm.1 e.symm),ih (k+1) hm.2]
  rw[List.map_cons,jW,aR];have e0:(IS x).1=0:=rfl;have e1:word (IS x).2 0=x.1:=rfl;have e2:word (IS x).2 1=cN.getD x.2 []:=rfl;rw[jb e0,e1,e2,(K5 ⟨x.2,by omega⟩).2.2];show(if di L x.1≥0 then _ else _)=_
  rw[ja (by unfold di;rw[hno L 0 kp];omega)];have ih:=Cg nb r ls (L++[x]) (i+1) (by rw[List.append_assoc];exact AK) (fun y hy=>h y (jN _ hy));have e3:(⟨L,[]⟩:QP).addLocal (x.1,(some x.2).getD 0)=⟨L++[x],[]⟩:=rfl;rw[e3,ih,List.append_assoc,jY,show i+1+ls.length=i+(ls.length+1) by omega];rfl
theorem zG {ls:List (B×Nat)}(AK:(ls.map (·.1)).Nodup)(kp:∀x∈ls,isName x.1=true){nb:Nat}(tC:nb<=1000000000)(r:List (Nat×List B))(A:List (List ab)):∀(b c:List ab) (i:Nat),(∀l∈b,Told ls nb l)->aR nb (b.map (sL ls)++r) i ⟨ls,A++[c]⟩=aR nb r (i+b.length) ⟨ls,A++[c++FX i b]⟩
 |[],c,i,_=>by rw[FX,List.append_nil];rfl
 |l::b,c,i,h=>by
  have h1:=h l (jM ..);have ih:=zG AK kp tC r A b (c++[{l with num:=i}]) (i+1) (fun y hy=>h y (jN _ hy));have h2:=h1.ok.Kp;have e1:(sL ls l).1=l.op:=rfl;rw[List.map_cons,jW,aR,ja (by rw[e1];omega),ja (by rw[e1];omega)];have e2:dw ls nb (sL ls l)=some {l with num:=0}:=IY AK kp tC h1;simp only[e2];have e3:(⟨ls,A++[c]⟩:QP).addLine {l with num:=i}=⟨ls,A++[c++[{l with num:=i}]]⟩:=by simp[QP.addLine]
  rw[e3,ih,FX,jY,List.append_assoc,show i+1+b.length=i+(b.length+1) by omega];rfl
theorem xj {ls:List (B×Nat)}(AK:(ls.map (·.1)).Nodup)(kp:∀x∈ls,isName x.1=true){nb:Nat}(tC:nb<=1000000000):∀(L A:List (List ab)) (i:Nat),(∀b∈L,∀l∈b,Told ls nb l)->aR nb (L.flatMap (fun b=>(1,[])::b.map (sL ls))) i ⟨ls,A⟩=(⟨ls,A++x4 i L⟩,none)
 |[],A,i,_=>by rw[x4,List.append_nil];rfl
 |b::L,A,i,h=>by
  have ih:=xj AK kp tC L (A++[FX (i+1) b]) (i+1+b.length) (fun c hc=>h c (jN _ hc));rw[List.flatMap_cons,jW,aR,ja (by decide),jb rfl];have e:(⟨ls,A⟩:QP).addBlock=⟨ls,A++[[]]⟩:=rfl;rw[e,zG AK kp tC _ A b [] (i+1) (h b (jM ..)),List.nil_append,ih,List.append_assoc];rfl
theorem Nu {q:QP}(h:fO q):aR q.blocks.length (Aj q) 0 QP.empty=(⟨q.locals,x4 q.locals.length q.blocks⟩,none):=by
 have hf:=h.mc;unfold Aj;have e:QP.empty=⟨[],[]⟩:=rfl;rw[e,Cg q.blocks.length _ q.locals [] 0 (by rw[List.nil_append];exact h.nodup) h.types,List.nil_append,Nat.zero_add,xj h.nodup h.names (by omega) q.blocks [] _ (fun b hb l hl=>(h.line hb hl).told),List.nil_append]
theorem Cr:∀(b:List ab) (i:Nat),yt (FX i b) b
 |[],_=>trivial
 |_::b,i=>⟨⟨rfl,rfl,rfl,rfl,rfl⟩,Cr b (i+1)⟩
theorem Cp:∀(L:List (List ab)) (i j:Nat),yt ((x4 i L).getD j []) (L.getD j [])
 |[],_,_=>trivial
 |b::_,i,0=>Cr b (i+1)
 |b::L,i,j+1=>Cp L (i+1+b.length) j
theorem FY:∀(b:List ab) (i:Nat) (x:ab),x∈FX i b->∃l∈b,∃n,x={l with num:=n}
 |[],_,_,h=>by cases h
 |l::b,i,x,h=>by
  rcases jP.1 h with rfl|h
  ·exact⟨l,jM ..,i,rfl⟩
  ·obtain⟨m,hm,n,e⟩:=FY b (i+1) x h;exact⟨m,jN _ hm,n,e⟩
theorem FW:∀(L:List (List ab)) (i:Nat) (x:ab),x∈(x4 i L).flatten->∃b∈L,∃l∈b,∃n,x={l with num:=n}
 |[],_,_,h=>by cases h
 |b::L,i,x,h=>by
  rw[x4,List.flatten_cons]at h;rcases List.mem_append.1 h with h|h
  ·obtain⟨m,hm,n,e⟩:=FY b _ x h;exact⟨b,jM ..,m,hm,n,e⟩
  ·obtain⟨c,hc,m,hm,n,e⟩:=FW L _ x h;exact⟨c,jN _ hc,m,hm,n,e⟩
theorem CH {q:QP}(h:fO q):az (mT q) true=(some ⟨q.locals,x4 q.locals.length q.blocks⟩,0,0):=by
 have hlen:¬(split 10 (mT q)).length>(if true=true then 4000 else 120):=by
  rw[Aw h,oO,jb rfl];have:=h.sum;omega
 have Dh:(⟨q.locals,x4 q.locals.length q.blocks⟩:QP).misfit=none:=by
  unfold QP.misfit;rw[Option.map_eq_none_iff,List.find?_eq_none];intro x hx;obtain⟨b,hb,l,hl,n,rfl⟩:=FW _ _ _ hx;have hf:(⟨q.locals,x4 q.locals.length q.blocks⟩:QP).fits {l with num:=n}=true:=by
   rw[vU (q:=q) (R:=⟨q.locals,x4 q.locals.length q.blocks⟩) rfl];exact(h.line hb hl).fits
  rw[hf];decide
 unfold az;rw[ja hlen,Jy h];simp only[Jw h,Nu h,Dh];rfl
end El
namespace El
open Go Go.RowKit Sq Aux Go.Proofs.YtmlgajhhnojdjaaGreatDoor.Own RefRa PrjF PrjG PrjJ PrjK PrjL PrjM PrjO PrjP PrjQ PrjS PrjT PrjU FlwA FlwB FlwE FlwM
structure AO (w wr:World)(v:Value)(D:List B):Prop where
 row:wr.ownsRow w.heap.size 9 1 v D.length (cellsOf D)
 aZ:Below w.heap.size w wr
section
variable {w wr w1 w3:World} {v v':Value} {D:List B}
theorem AO.on (h:AO w wr v D)(hb:Below wr.heap.size wr w1):AO w w1 v D:=⟨aw h.row hb,h.aZ.trans (hb.mono h.aZ.size)⟩
theorem AO.push (h:AO w wr v D){o:Obj}{b:B}{n:Nat}(hn:n=D.length+1)(hown:w3.ownsRow w.heap.size 9 1 v' n (cellsOf D++[.string (bs b)]))(hg:(wr.alloc o).grownBy w3 v.ownBlock):AO w w3 v' (D++[b]):=by
 refine⟨?_,dX h.aZ (jC _) h.aZ.size h.row hg⟩;subst hn;have e:cellsOf (D++[b])=cellsOf D++[.string (bs b)]:=by simp[cellsOf]
 rw[e,jV];exact hown
end
theorem SK:(⟨#[32]⟩:ByteArray).toList=[32]:=bP [32]
theorem PG (x:B×Nat):sJ x=iE++[32]++x.1++[32]++cN.getD x.2 []:=by
 unfold sJ zA;rw[pP,pP,Lib.join_one];simp
def pj (ls:List (B×Nat))(L:List (List ab)):List B:=L.flatMap (fun b=>cM::b.map (oW ls))
theorem IM {w wr:World}{v:Value}{D:List B}(h:AO w wr v D)(hn:D.length<=4000)(hl:∀b∈D,b.length<=88):
  Calls Tryz.prog 83 #[v,.string ⟨#[10]⟩] wr fun e w'=>e=.returned (.string (bs (Lib.join D [10])))/\Below wr.heap.size wr w':=by
 obtain⟨fL,-⟩:=h;cases D with
 |nil=>
  have h':∃ad c,v=.slice ad 0 c:=by
   rcases fL.2 with⟨e,-⟩|⟨g,cap,cur,e,-⟩
   ·exact⟨none,0,e⟩
   ·exact⟨_,cap,e⟩
  obtain⟨ad,c,rfl⟩:=h';refine(Tryz.strings_Join_none ad c ⟨#[10]⟩ wr).mono fun e w' ⟨he,hw'⟩=>⟨?_,by rw[hw'];exact Below.refl _ _⟩
  rw[he];rfl
 |cons a r=>
  obtain⟨g,cap,rfl,hc,hg,aX⟩:=cW fL (by simp);have hlen:=mz (n:=88) 10 (a::r) hl;have e:((a::r).map bs).map (fun x=>x.data.toList)=a::r:=by
   rw[List.map_map];have:((fun x:ByteArray=>x.data.toList)∘bs)=id:=funext CS;rw[this,List.map_id]
  have K:=Tryz.strings_Join g 0 cap ((a::r).map bs) ⟨#[10]⟩ wr (fun j v hv=>by
   rw[jJ,Option.map_eq_some_iff]at hv;obtain⟨b,hb,rfl⟩:=hv;have hj:j<(a::r).length:=by
    by_cases hj:j<(a::r).length
    ·exact hj
    ·rw[jG (by omega)]at hb;cases hb
   rw[Nat.zero_add,aX j (by omega),cellsOf,jJ,hb];rfl) hg (by rw[jc];omega) (by rw[jc];exact hc) (by
    rw[e];show(Lib.join (a::r) [10]).length<=_
    omega)
  rw[jc]at K;refine K.mono fun e' w' ⟨he,hw'⟩=>⟨?_,hw'⟩
  rw[he,e];rfl
section
variable {z a:Nat} {w:World} {q:QP} {vl vb:Value} {us:List Value} {vss:List (List (Value×Value))}
set_option maxRecDepth 20000 in
theorem Qs (h:gS z a w q vl vb us vss)(ok:fO q)(E:Env w)(hS:oc w)(hP:Pow w):
  Calls Tryz.prog 51 #[.pointer (some ⟨a,0,none⟩)] w fun e w'=>e=.returned (.string (bs (mT q)))/\Below w.heap.size w w':=by
 obtain⟨i,hi,Hb,tY,tZ⟩:=info_parts zj;have AI:=ok.l1;have rB:=ok.IP;have aG:=ok.b1;have Vx:=ok.mc;obtain⟨p0,p1,-,-⟩:=gS.facts h;have halt:=h.lt;have L4:gM w vl q.locals:=⟨z,h.locals⟩;obtain⟨gl,cl,rfl,AH,sf,NP⟩:=(qv L4).resolve_left (fun e=>by rw[e.1]at AI;simp at AI);obtain⟨gb,cb,rfl,B8,B9,-⟩:=cW h.blocks aG;have xV:(eS q).length<=4000:=by rw[oO];exact ok.sum
 have HT:Hid (eS q=[]++((q.locals.drop 0).map sJ++pj q.locals (q.blocks.drop 0))):=rfl;have HS:Hid (∀t∈eS q,t.length<=88):=fun t ht=>(rY ok t ht).2
 go_enter Tryz.func51,Tryz.ntmps51
 go_wp2
 go_loopg [3,15] (q.locals.length) (fun g v3 v15 wr=>∃(k:Nat) (D:List B),k<=q.locals.length/\g+k=q.locals.length/\v15=.int .i64 k/\AO w wr v3 D/\Hid (eS q=D++((q.locals.drop k).map sJ++pj q.locals (q.blocks.drop 0))))
 case atStart=>exact⟨0,[],jQ _,rfl,rfl,⟨World.ownsRow_nil _ _ _ _,Below.refl _ _⟩,HT⟩
 case round=>
  clear HT;obtain⟨k,D,hk,Ca,rfl,hD,HD⟩:=hrel;have Wh:D.length<=4000:=by have:=congrArg List.length HD.out;rw[jV]at this;omega
  by_cases bg:k<q.locals.length
  ·
   have A8:q.locals.drop k=q.locals[k]::q.locals.drop (k+1):=jE bg;have OR:q.locals.getD k ([],0)=q.locals[k]:=by rw[jA,jB bg];rfl
   obtain⟨xU,AG⟩:=NP k bg;rw[OR]at xU AG;have mw:q.locals[k]∈q.locals:=jL bg;have kp:=(oE (ok.names _ mw)).2;have D5:=ok.types _ mw;have HN:Hid (eS q=(D++[sJ q.locals[k]])++((q.locals.drop (k+1)).map sJ++pj q.locals (q.blocks.drop 0))):=by
    unfold Hid;rw[HD.out,A8,List.map_cons,List.append_assoc];rfl
   have r1:=(hD.aZ.cell (p:=⟨gl,k*2,none⟩) sf).trans xU;have r2:=(hD.aZ.cell (p:=⟨gl,k*2+1,none⟩) sf).trans AG;have NO:(k:Int)<q.locals.length:=by omega
   have HE:Hid (sJ q.locals[k]=iE++[32]++q.locals[k].1++[32]++cN.getD q.locals[k].2 []):=PG _;clear A8 OR xU AG mw HD;generalize q.locals[k]=x at*;obtain⟨nm,ty⟩:=x;simp only at kp D5 r1 r2;have lW:Below wr.heap.size wr (wr.alloc (.cells #[.string (bs nm),.int .i64 (ty:Nat)] 146)):=(Below.refl _ _).alloc (jC _) _;have AL:(wr.alloc (.cells #[.string (bs nm),.int .i64 (ty:Nat)] 146)).heap[wr.heap.size]?=some (.cells #[.string (bs nm),.int .i64 (ty:Nat)] 146 (0,0)):=jD;go_upto_region 5 with fail
   generalize (wr.alloc (.cells #[.string (bs nm),.int .i64 (ty:Nat)] 146))=WL at*;have NF:=hD.on lW;have l0:=(cell_of_heap AL 0).trans (by rfl:_=some (Value.string (bs nm)));have l1:=(cell_of_heap AL 1).trans (by rfl:_=some (Value.int .i64 (ty:Nat)));have o8:=vG (E.on NF.aZ) 0 (by decide);have Ke:=Ny (E.on NF.aZ) ty D5;have Y3:(cN.getD ty []).length<=4:=(K5 ⟨ty,by omega⟩).2.1;have hol:(cq 0).length<=5:=by decide
   have hty4:(ty:Int)<4:=by omega
   have HO:Hid (cq 0=iE):=rfl;have sE:=NF.aZ.size;simp only[Nat.zero_mul]at o8;generalize cN.getD ty []=tw at*;generalize cq 0=ow at*;have hov1:¬9223372036854775807<ow.length+1:=by omega
   have hov2:¬9223372036854775807<ow.length+1+nm.length:=by omega
   have hov3:¬9223372036854775807<ow.length+1+nm.length+1:=by omega
   have hov4:¬9223372036854775807<ow.length+1+nm.length+1+tw.length:=by omega
   clear hD lW r1 r2;go_region_law (refine CD (by rfl) _ _ _ (by rfl) w.heap.size 9 i (.string ⟨#[]⟩) 16 Tryz.underlying34 hi Hb tY tZ (by rfl) _ _ _ (by rfl) (aw NF.row (show Below WL.heap.size WL WL.drew from⟨rfl,rfl,rfl,jC _,fun _ _=>rfl⟩)) _ (by rfl) (by rfl) (by decide) (by omega) sE ?_;intro g2 c2' w2 hown2 hgrow2 hat2 Dg)
   all_goals go_wp2_with fail
   all_goals
    have lY:(WL.alloc (.cells #[.string (bs ow++⟨#[32]⟩++bs nm++⟨#[32]⟩++bs tw)] 9)).grownBy w2 _:=⟨hgrow2.os,hgrow2.tape,hgrow2.output,hgrow2.size,hgrow2.block⟩;have e:bs ow++⟨#[32]⟩++bs nm++⟨#[32]⟩++bs tw=bs (sJ (nm,ty)):=JY (by rw[HE.out,fu,fu,fu,fu,bP,bP,bP,HO.out,SK]);rw[e]at hown2;go_roundg (q.locals.length-(k+1))
    case measure=>omega
    case rel=>exact⟨k+1,D++[sJ (nm,ty)],by omega,by omega,by go_num,NF.push rfl hown2 lY,HN⟩
  ·
   have mY:k=q.locals.length:=by omega
   subst mY;have HT2:Hid (eS q=D++pj q.locals (q.blocks.drop 0)):=by
    unfold Hid;rw[HD.out,List.drop_length];rfl
   have q1:=(hD.aZ.cell (p:=⟨a,1,none⟩) halt).trans p1;clear HD;go_wp2
   go_loopg [3,41] (q.blocks.length) (fun g v3 v41 wr=>∃(j:Nat) (D:List B),j<=q.blocks.length/\g+j=q.blocks.length/\v41=.int .i64 j/\AO w wr v3 D/\Hid (eS q=D++pj q.locals (q.blocks.drop j)))
   case atStart=>exact⟨0,D,jQ _,rfl,rfl,hD,HT2⟩
   case round=>
    clear HT2 hD Wh q1;obtain⟨j,D2,hj,hgj,rfl,hD,HD⟩:=hrel;have Wh:D2.length<=4000:=by have:=congrArg List.length HD.out;rw[jV]at this;omega
    by_cases hltj:j<q.blocks.length
    ·obtain⟨gb',cb',adk,ck,AM,-,-,aX,Kd⟩:=fZ h j hltj;cases AM
     have HB:Hid (dD z w (.slice adk (q.blocks.getD j []).length ck) (q.blocks.getD j []) (vss.getD j [])):=by
      have h1:=h.each j hltj;rw[Kd]at h1;exact h1
     have mw:q.blocks.getD j []∈q.blocks:=by rw[jA,jB hltj];exact jL hltj
     have HL:Hid (∀l∈q.blocks.getD j [],Told q.locals q.blocks.length l):=fun l hl=>(ok.line mw hl).told
     have A8:q.blocks.drop j=q.blocks.getD j []::q.blocks.drop (j+1):=by
      rw[jE hltj,jA,jB hltj];rfl
     have HN:Hid (eS q=(D2++[cM])++(((q.blocks.getD j []).drop 0).map (oW q.locals)++pj q.locals (q.blocks.drop (j+1)))):=by
      unfold Hid;rw[HD.out,A8];simp[pj]
     have q1:=(hD.aZ.cell (p:=⟨gb,j,none⟩) B9).trans aX;have hji:(j:Int)<q.blocks.length:=by omega
     have Ke:=vG (E.on hD.aZ) 1 (by decide);have sE:=hD.aZ.size;have HO:Hid (cq 1=cM):=rfl;have qS:(q.blocks.getD j []).length<=4000:=by
      have:=congrArg List.length HN.out;simp only[List.length_append,List.length_map,List.length_drop]at this;omega
     simp only[Nat.one_mul]at Ke;clear A8 HD aX Kd mw;generalize q.blocks.getD j []=aM at*;generalize vss.getD j []=vsj at*;generalize cq 1=ow at*;go_wp2_with (at_builtin;go_must (refine gN rfl _ _ 34 rfl w.heap.size 9 i (.string ⟨#[]⟩) 16 Tryz.underlying34 hi Hb tY tZ rfl _ _ _ rfl hD.row _ rfl rfl (by decide) (by omega) sE ?_);intro g2 c2' w2 hown2 hgrow2 hat2 Dg)
     have ZC:=hD.push rfl hown2 hgrow2;rw[HO.out]at ZC;clear hD hown2 hgrow2 hat2 Dg q1 Ke sE Wh;go_loopg [3,53] (aM.length) (fun g v3 v53 wr=>∃(k:Nat) (D:List B),k<=aM.length/\g+k=aM.length/\v53=.int .i64 k/\AO w wr v3 D/\Hid (eS q=D++((aM.drop k).map (oW q.locals)++pj q.locals (q.blocks.drop (j+1)))))
     case atStart=>exact⟨0,_,jQ _,rfl,rfl,ZC,HN⟩
     case round=>
      clear HN ZC;obtain⟨k,D3,hk,Ca,rfl,hD,HD⟩:=hrel;have Wh:D3.length<=4000:=by have:=congrArg List.length HD.out;rw[jV]at this;omega
      by_cases hltk:k<aM.length
      ·obtain⟨gk,apl,cp,an,cn,rfl,-,Ip,LU,k0,k1,k2,k3,k4,k5,Ii⟩:=lA HB.out k hltk;have OR:aM.getD k ab.nil∈aM:=by rw[jA,jB hltk];exact jL hltk
       have hl:=HL.out _ OR;have A8:aM.drop k=aM.getD k ab.nil::aM.drop (k+1):=by
        rw[jE hltk,jA,jB hltk];rfl
       have HN:Hid (eS q=(D3++[oW q.locals (aM.getD k ab.nil)])++((aM.drop (k+1)).map (oW q.locals)++pj q.locals (q.blocks.drop (j+1)))):=by
        unfold Hid;rw[HD.out,A8,List.map_cons,List.append_assoc];rfl
       have c0:=(hD.aZ.cell (p:=⟨gk,k*6,none⟩) LU).trans k0;have c1:=(hD.aZ.cell (p:=⟨gk,k*6+1,none⟩) LU).trans k1;have c2:=(hD.aZ.cell (p:=⟨gk,k*6+2,none⟩) LU).trans k2;have c3:=(hD.aZ.cell (p:=⟨gk,k*6+3,none⟩) LU).trans k3;have c4:=(hD.aZ.cell (p:=⟨gk,k*6+4,none⟩) LU).trans k4;have c5:=(hD.aZ.cell (p:=⟨gk,k*6+5,none⟩) LU).trans k5;clear k0 k1 k2 k3 k4 k5 A8 HD OR;have NO:(k:Int)<aM.length:=by omega
       generalize aM.getD k ab.nil=l at*;have lW:Below wr.heap.size wr (wr.alloc (.cells #[.int .i64 (l.num:Nat),.int .i64 (l.op:Nat),.slice apl l.places.length cp,.int .i64 l.number,.int .i64 l.flag,.slice an l.next.length cn] 115)):=(Below.refl _ _).alloc (jC _) _;have AL:(wr.alloc (.cells #[.int .i64 (l.num:Nat),.int .i64 (l.op:Nat),.slice apl l.places.length cp,.int .i64 l.number,.int .i64 l.flag,.slice an l.next.length cn] 115)).heap[wr.heap.size]?=some (.cells #[.int .i64 (l.num:Nat),.int .i64 (l.op:Nat),.slice apl l.places.length cp,.int .i64 l.number,.int .i64 l.flag,.slice an l.next.length cn] 115 (0,0)):=jD;go_upto_region 14 with fail
       generalize (wr.alloc (.cells #[.int .i64 (l.num:Nat),.int .i64 (l.op:Nat),.slice apl l.places.length cp,.int .i64 l.number,.int .i64 l.flag,.slice an l.next.length cn] 115))=WL at*;have NF:=hD.on lW;have l0:=(cell_of_heap AL 0).trans (by rfl:_=some (Value.int .i64 (l.num:Nat)));have l1:=(cell_of_heap AL 1).trans (by rfl:_=some (Value.int .i64 (l.op:Nat)));have l2:=(cell_of_heap AL 2).trans (by rfl:_=some (Value.slice apl l.places.length cp));have l3:=(cell_of_heap AL 3).trans (by rfl:_=some (Value.int .i64 l.number));have l4:=(cell_of_heap AL 4).trans (by rfl:_=some (Value.int .i64 l.flag));have l5:=(cell_of_heap AL 5).trans (by rfl:_=some (Value.slice an l.next.length cn));have LN:=h.below NF.aZ;have KT:=Jv q l q.blocks.length z a _ _ apl an cp cn WL LN.aM ⟨z,LN.locals⟩ rB ok.names hl (by have:=ok.mc;omega) (Ii.below NF.aZ) (E.on NF.aZ) (hS.below NF.aZ E.size) (hP.below NF.aZ E.size);clear hD lW c0 c1 c2 c3 c4 c5 LN;go_wp2_with (first
        |(go_at_call 82;refine KT.mono ?_;rintro e w1 ⟨rfl,ir⟩;have ZB:=NF.on ir;have sE:=ZB.aZ.size)
        |(at_builtin;go_must (refine gN rfl _ _ 34 rfl w.heap.size 9 i (.string ⟨#[]⟩) 16 Tryz.underlying34 hi Hb tY tZ rfl _ _ _ rfl ZB.row _ rfl rfl (by decide) (by omega) sE ?_);intro g2 c2' w2 hown2 hgrow2 hat2 Dg))
       go_roundg (aM.length-(k+1))
       case measure=>omega
       case rel=>exact⟨k+1,_,by omega,by omega,by go_num,ZB.push rfl hown2 hgrow2,HN⟩
      ·have mY:k=aM.length:=by omega
       subst mY;have HN:Hid (eS q=D3++pj q.locals (q.blocks.drop (j+1))):=by
        unfold Hid;rw[HD.out,List.drop_length];rfl
       go_wp2
       go_roundg (q.blocks.length-(j+1))
       case measure=>omega
       case rel=>exact⟨j+1,D3,by omega,by omega,by go_num,hD,HN⟩
    ·have xW:j=q.blocks.length:=by omega
     subst xW;have HE:Hid (eS q=D2):=by
      unfold Hid;rw[HD.out,List.drop_length];simp[pj]
     have KJ:=IM hD Wh (fun b hb=>HS.out b (by rw[HE.out];exact hb));go_wp2_with (go_at_call 83;refine KJ.mono ?_;rintro e w1 ⟨rfl,ir⟩)
     go_ret
     exact⟨by unfold mT;rw[HE.out];rfl,hD.aZ.trans (ir.mono hD.aZ.size)⟩
end
end El
namespace FlwZa
open Go Go.RowKit Sq Aux PrjF PrjG PrjJ PrjK PrjM PrjW PrjX RefM FlwP FlwQ FlwV FlwY FlwZ
set_option maxRecDepth 20000 in
theorem oF (text:B)(w:World)(h:text.length<=1048576)(E:Env w):Calls Tryz.prog 38 #[.string (bs text)] w (kk text w):=by
 have Zg:=M6 text w h E;go_enter Tryz.func38,Tryz.ntmps38
 cases hr:az text false with
 |mk op ck=>
  obtain⟨c,k⟩:=ck;cases op with
  |none=>
   obtain⟨xU,AG⟩:=xr hr;have B8:((c:Int)==0)=false:=by simp;omega
   have HR:Hid (_=_):=hr;have eH:Hid (_=_):=AG;go_wp2_with (go_at_call 53;refine Zg.mono ?_;rintro e w1 ⟨aG,v,rfl,hv⟩;rw[HR.out]at hv;obtain⟨-,rfl⟩:True/\v=.pointer none:=(by rcases hv with⟨-,hv⟩|⟨p,a,z,hp,-⟩;exact⟨trivial,hv⟩;cases hp);have Ke:Hid (Below w.heap.size w w1):=aG;simp only[HR.out])
   go_ret3
   exact⟨Ke.out,.inl ⟨c,k,xU,eH.out,rfl⟩⟩
  |some q=>
   obtain⟨rfl,rfl,p,hp,hB⟩:=gq hr;have HR:Hid (_=_):=hr;have HP:Hid (_=_):=hp;have HB:Hid (_):=hB;clear hr hp hB;go_upto_region 4 with(go_at_call 53;refine Zg.mono ?_;rintro e w1 ⟨aG,v,rfl,hv⟩;rw[HR.out]at hv;obtain⟨a,z,rfl,hz,hG⟩:∃a z,v=.pointer (some ⟨a,0,none⟩)/\Hid (w.heap.size<=z)/\Hid (AR z a w1 q):=(by rcases hv with⟨hv,-⟩|⟨q',a,z,hq,hv,hz,hg⟩;(cases hv);(cases hq;exact⟨a,z,hv,hz,hg⟩));have Ke:Hid (Below w.heap.size w w1):=aG;clear hv aG;simp only[HR.out])
   have HF:=Ot HB.out hG.out;go_upto_region 5 with(go_at_call 54;refine HF.mono ?_;rintro e w2 ⟨⟨E',hD,rfl⟩,bH⟩;have HD:Hid (_):=hD;have HBB:Hid (_):=bH;clear hD bH;rw[sj];obtain⟨r,hr⟩:∃r,Hid (aQ (cC q E') q.blocks.length 0=r):=⟨_,rfl⟩;rw[hr.out])
   clear HF Zg;have HW:Hid (Below w.heap.size w w2):=Ke.out.trans (HBB.out.mono Ke.out.size);cases r with
   |none=>
    simp only[Option.isSome_none];go_wp2
    go_ret3
    exact⟨HW.out,.inr ⟨p,q,E',HP.out,HR.out,HD.out,.inr ⟨hr.out,a,z,rfl,hz.out,LJ hG.out HBB.out⟩⟩⟩
   |some n=>
    simp only[Option.isSome_some,Option.getD_some];go_wp2
    go_ret3
    exact⟨HW.out,.inr ⟨p,q,E',HP.out,HR.out,HD.out,.inl ⟨n,hr.out,rfl⟩⟩⟩
set_option maxRecDepth 20000 in
theorem Bt (text:B)(w:World)(h:text.length<=1048576)(E:Env w):Calls Tryz.prog 21 #[.string (bs text)] w fun e w'=>(∃c k,Hid (iJ text c k)/\e=.returned (.tuple #[.int .i64 c,.int .i64 k]))/\Below w.heap.size w w':=by
 have K:=(oF text w h E).mono (R':=fun e w'=>∃v c k,e=.returned (.tuple #[v,.int .i64 c,.int .i64 k])/\Hid (iJ text c k)/\Below w.heap.size w w') fun e w' hp=>by
  obtain⟨hb,v,c,k,rfl,ha⟩:=hp.bX;exact⟨v,c,k,rfl,ha,hb⟩
 go_enter Tryz.func21,Tryz.ntmps21
 go_wp2_with (go_at_call 38;refine K.mono ?_;rintro e w1 ⟨v,c,k,rfl,ha,hb⟩)
 go_ret2
 exact⟨⟨c,k,ha,rfl⟩,hb⟩
def sU:B:=[108,101,116,32,110,32,105,110,116,10,108,101,116,32,112,32,98,111,120,10,98,108,111,99,107,10,115,101,116,32,110,32,53,10,110,101,119,32,112,32,110,10,108,111,97,100,32,110,32,112,10,101,110,100,32,110]
end FlwZa
namespace El
open Go Go.RowKit Sq Aux Go.Proofs.YtmlgajhhnojdjaaGreatDoor.Own RunA RunB PrjF PrjG PrjJ PrjK PrjM PrjS PrjW PrjX RefM FlwP FlwQ FlwV FlwY FlwZ FlwZa
theorem GG (q:QP):∀n,n<=q.blocks.length->mR q n=(q.blocks.take n).flatten.length
 |0,_=>by simp[mR]
 |n+1,h=>by rw[mR,CG q (by omega),GG q n (by omega)]
theorem Yu {text:B}{p:RP}{q:QP}(hB:AN text false p q)(QS:az text false=(some q,0,0)):TQ q:=by
 have hS:=oI QS;have hN:=An QS;refine⟨hN.IP,GK hB.Kt,hS.whole,fun b l hl=> ?_⟩;obtain⟨k1,k2,k3⟩:=hN.told.lines _ (dn hl) l hl;exact⟨hB.Kt.lines _ (dn hl) l hl,hS.has b l hl,hS.fits b l hl,k1,k2,k3⟩
theorem Ac {text:B}{p:RP}{q:QP}{E:List (List Nat)}(hD:oZ text p q E)(QS:az text false=(some q,0,0)):fO (ki q E):=by
 have hN:=An QS;have hq:=Yu hD.both QS;obtain⟨h1,h2⟩:=U3 hq E (fun b hb=>(hD.ok hb).len);have h3:=SD q E;have h4:=hN.sum;have h5:=hN.IP;have h6:=hN.rl;have h7:=hN.b1;have h8:(10*q.locals.length)*q.blocks.length<=120*q.blocks.length:=Nat.mul_le_mul_right _ (by omega);exact⟨hN.told.names,hD.both.Kt.types,hN.told.nodup,hN.l1,hN.IP,by omega,by show q.locals.length+_+_<=4000;omega,h1⟩
def Hc (text:B)(v:B)(c k:Int):Prop:=iJ text c k/\((¬c=0/\v=[])\/
 c=0/\k=0/\∃p q E,bY text false=(some p,0,0)/\az text false=(some q,0,0)/\oZ text p q E/\aQ (cC q E) q.blocks.length 0=none/\v=mT (ki q E))
set_option maxRecDepth 20000 in
theorem AQ (text:B)(w:World)(h:text.length<=1048576)(E:Env w)(hS:oc w)(hP:Pow w):Calls Tryz.prog 32 #[.string (bs text)] w fun e w'=>(∃v c k,Hid (Hc text v c k)/\e=.returned (.tuple #[.string (bs v),.int .i64 c,.int .i64 k]))/\Below w.heap.size w w':=by
 have K:=(oF text w h E).mono (R':=fun e w'=>∃v c k,e=.returned (.tuple #[v,.int .i64 c,.int .i64 k])/\Hid (iJ text c k)/\Below w.heap.size w w'/\Hid (c=0->∃p q E a z,bY text false=(some p,0,0)/\az text false=(some q,0,0)/\oZ text p q E/\aQ (cC q E) q.blocks.length 0=none/\k=0/\v=.pointer (some ⟨a,0,none⟩)/\AR z a w' q)) fun e w' hp=>by
  obtain⟨hb,v,c,k,rfl,ha⟩:=hp.bX;refine⟨v,c,k,rfl,ha,hb,fun hc=> ?_⟩;obtain⟨-,h|⟨p,q,E,h1,hq,h2,⟨n,h3,he⟩|⟨h3,a,z,he,hz,hG⟩⟩⟩:=hp
  ·obtain⟨c',k',h0,h1,he⟩:=h;simp only[Ending.returned.injEq,Value.tuple.injEq,Array.mk.injEq,List.cons.injEq,Value.int.injEq,true_and,and_true]at he;omega
  ·simp only[Ending.returned.injEq,Value.tuple.injEq,Array.mk.injEq,List.cons.injEq,Value.int.injEq,true_and,and_true]at he;omega
  ·simp only[Ending.returned.injEq,Value.tuple.injEq,Array.mk.injEq,List.cons.injEq,Value.int.injEq,true_and,and_true]at he;exact⟨p,q,E,a,z,h1,hq,h2,h3,he.2.2,he.1,hG⟩
 go_enter Tryz.func32,Tryz.ntmps32
 go_upto_region 2 with(go_at_call 38;refine K.mono ?_;rintro e w1 ⟨v,c,k,rfl,HA,aG,HC⟩)
 clear K;by_cases hc:c=0
 ·subst hc;obtain⟨p,q,E1,a,z,g1,g2,g3,g4,rfl,rfl,hG⟩:=HC.out rfl;obtain⟨vl,vb,us,vss,hp⟩:=hG.at_;have hN:=An g2;have KR:=SC hp hN.b1 hG.blocks hN.l1 hN.IP g3.both.Kt hG.lines (by rw[GG q _ (jC _),List.take_length];have:=hN.sum;omega) (D7 q) (zm q hN.b1) (fun E O b _ _ hb hO hI=>Cd q g3.both.Kt hN.IP E O b hb hO hI);have HG:Hid (∀E',D7 q E' (fun _=>false)->Hc text (mT (ki q E')) 0 0/\fO (ki q E')):=fun E' hI=>by
   have hD:oZ text p q E':=⟨g3.both,hI,hN.b1⟩;refine⟨⟨HA.out,.inr ⟨rfl,rfl,p,q,E',g1,g2,hD,?_,rfl⟩⟩,Ac hD g2⟩;cases hf:aQ (cC q E') q.blocks.length 0 with
   |none=>rfl
   |some n=>
    have:=(CV HA.out (.inr ⟨p,q,E',g1,g2,hD,.inl ⟨n,hf,rfl,rfl⟩⟩)).1;omega
  clear HA HC g1 g2 g3 g4 hG hN;go_wp2_with (first
   |(go_at_call 50;refine KR.mono ?_;rintro e w2 ⟨a',vb',us',vss',E2,rfl,Pf,-,-,xP,bH⟩;obtain⟨hE2,lV⟩:=HG.out E2 xP;have dT:=aG.trans (bH.mono aG.size);have KT:=Qs Pf lV (E.on dT) (hS.below dT E.size) (hP.below dT E.size))
   |(go_at_call 51;refine KT.mono ?_;rintro e w3 ⟨rfl,cT⟩))
  go_ret3
  exact⟨⟨_,_,_,hE2,rfl⟩,dT.trans (cT.mono dT.size)⟩
 ·have B8:(c==0)=false:=by simp[hc]
  have HN:Hid (¬c=0):=hc;clear hc HC;go_wp2
  go_ret3
  exact⟨⟨[],c,k,⟨HA.out,.inl ⟨HN.out,rfl⟩⟩,rfl⟩,aG⟩
end El
end Go.Proofs.YtmlgajhhnojdjaaGreatDoor

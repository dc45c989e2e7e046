import Derived.Test.YtmlgajhhnojdjaaGreatDoorUBK
namespace Go.Proofs.YtmlgajhhnojdjaaGreatDoor
namespace El
open Go Sq Aux RefRa PrjS RunA Go.Proofs.YtmlgajhhnojdjaaGreatDoor.Own RunB FlwA FlwB FlwD FlwE FlwG
structure Hd (q:QP)(n:Nat)(m:Mk):Prop where
 at_:m.at_<m.blocks.length
 len:q.blocks.length<=m.blocks.length
 side:m.at_=n\/q.blocks.length<=m.at_
 nlt:n<q.blocks.length
 lines:∀k,∀l∈m.blocks.getD k [],RL q m.blocks.length l
 mZ:∀l∈m.blocks.getD m.at_ [],l.op<18
 rest:∀k,k<m.blocks.length->¬k=m.at_->(n<k/\k<q.blocks.length)\/Whole (m.blocks.getD k [])
 emp:∀k,n<k->k<q.blocks.length->m.blocks.getD k []=[]
structure D8 (q:QP)(n:Nat)(m:Mk):Prop where
 len:q.blocks.length<=m.blocks.length
 lines:∀k,∀l∈m.blocks.getD k [],RL q m.blocks.length l
 rest:∀k,k<m.blocks.length->(n<=k/\k<q.blocks.length)\/Whole (m.blocks.getD k [])
 emp:∀k,n<=k->k<q.blocks.length->m.blocks.getD k []=[]
def Mk.total (m:Mk):Nat:=m.blocks.length+m.blocks.flatten.length
theorem Cz:∀(L:List (List ab)) (k:Nat) (y:List ab),k<L.length->(L.set k y).flatten.length+(L.getD k []).length=L.flatten.length+y.length
 |[],_,_,h=>by cases h
 |a::L,0,y,_=>by
  show(y::L).flatten.length+a.length=(a::L).flatten.length+y.length
  rw[List.flatten_cons,List.flatten_cons,jV,jV];omega
 |a::L,k+1,y,h=>by
  have ih:=Cz L k y (by simpa using h);show(a::L.set k y).flatten.length+(L.getD k []).length=(a::L).flatten.length+y.length
  rw[List.flatten_cons,List.flatten_cons,jV,jV];omega
theorem mM (m:Mk)(ls:List ab)(h:m.at_<m.blocks.length):(m.put ls).total=m.total+ls.length:=by
 have:=Cz m.blocks m.at_ (m.blocks.getD m.at_ []++ls) h;unfold Mk.total;rw[fH];unfold Mk.put;simp only;rw[jV]at this;omega
theorem H5 (m:Mk)(t:ab)(sd:List ab)(h:m.at_<m.blocks.length):(m.fork t sd).total=m.total+(4+sd.length):=by
 have h0:(⟨m.blocks++[[],[]],m.at_⟩:Mk).total=m.total+2:=by
  show(m.blocks++[[],[]]).length+(m.blocks++[[],[]]).flatten.length=m.blocks.length+m.blocks.flatten.length+2
  simp only[List.length_append,List.length_cons,List.length_nil,List.flatten_append,List.flatten_cons,List.flatten_nil];omega
 have h1:=mM (⟨m.blocks++[[],[]],m.at_⟩:Mk) [{t with next:=[m.blocks.length,m.blocks.length+1]}] (by show m.at_<(m.blocks++[[],[]]).length;rw[jV];omega);have h2:=mM (⟨((⟨m.blocks++[[],[]],m.at_⟩:Mk).put [{t with next:=[m.blocks.length,m.blocks.length+1]}]).blocks,m.blocks.length⟩:Mk) (sd++[eB (m.blocks.length+1)]) (by rw[fH];show m.blocks.length<(m.blocks++[[],[]]).length;rw[jV];simp);have e1:(m.fork t sd).total=((⟨((⟨m.blocks++[[],[]],m.at_⟩:Mk).put [{t with next:=[m.blocks.length,m.blocks.length+1]}]).blocks,m.blocks.length⟩:Mk).put (sd++[eB (m.blocks.length+1)])).total:=rfl;have e2:(⟨((⟨m.blocks++[[],[]],m.at_⟩:Mk).put [{t with next:=[m.blocks.length,m.blocks.length+1]}]).blocks,m.blocks.length⟩:Mk).total=((⟨m.blocks++[[],[]],m.at_⟩:Mk).put [{t with next:=[m.blocks.length,m.blocks.length+1]}]).total:=rfl;rw[e1,h2,e2,h1,h0,jV];simp only[List.length_cons,List.length_nil];omega
section
variable {q:QP} {n:Nat} {m:Mk}
theorem Hd.line (h:Hd q n m){l:ab}(hl:RL q q.blocks.length l)(kK:l.op<18):Hd q n (m.put [l]):=by
 have hp:=l9 m [l] h.at_;have hn:=fH m [l];have ha:(m.put [l]).at_=m.at_:=rfl;refine⟨by rw[hn,ha];exact h.at_,by rw[hn];exact h.len,by rw[ha];exact h.side,h.nlt,fun k x hx=> ?_,fun x hx=> ?_,fun k hk dB=> ?_,fun k h1 h2=> ?_⟩
 ·rw[hn];rw[hp]at hx;split at hx
  ·rcases List.mem_append.1 hx with hx|hx
   ·exact h.lines k x hx
   ·rw[jI.1 hx];exact hl.more h.len
  ·exact h.lines k x hx
 ·rw[ha,hp,jb rfl]at hx;rcases List.mem_append.1 hx with hx|hx
  ·exact h.mZ x hx
  ·rw[jI.1 hx];exact kK
 ·rw[hn]at hk;rw[ha]at dB;rw[hp,ja dB];exact h.rest k hk dB
 ·rw[hp,ja (by have:=h.side;omega)];exact h.emp k h1 h2
theorem Hd.close (h:Hd q n m){l:ab}(hl:RL q q.blocks.length l)(kK:18<=l.op):D8 q (n+1) (m.put [l]):=by
 have hp:=l9 m [l] h.at_;have hn:=fH m [l];refine⟨by rw[hn];exact h.len,fun k x hx=> ?_,fun k hk=> ?_,fun k h1 h2=> ?_⟩
 ·rw[hn];rw[hp]at hx;split at hx
  ·rcases List.mem_append.1 hx with hx|hx
   ·exact h.lines k x hx
   ·rw[jI.1 hx];exact hl.more h.len
  ·exact h.lines k x hx
 ·rw[hn]at hk;by_cases e:k=m.at_
  ·right;rw[hp,jb e];exact⟨m.blocks.getD k [],l,rfl,kK,fun x hx=>h.mZ x (by rw[<-e];exact hx)⟩
  ·rw[hp,ja e];exact(h.rest k hk e).imp (fun x=>⟨by omega,x.2⟩) id
 ·rw[hp,ja (by have:=h.side;omega)];exact h.emp k (by omega) h2
theorem Hd.fork (h:Hd q n m){t:ab}{sd:List ab}(hi:N2 q q.blocks.length (.fork t sd)):Hd q n (m.fork t sd):=by
 have hp:=qp m t sd h.at_;have hn:=pB m t sd;have ha:(m.fork t sd).at_=m.blocks.length+1:=rfl;have mX:=h.at_;have hlen:=h.len;have hside:=h.side;obtain⟨i1,i2,i3⟩:=hi;refine⟨by rw[hn,ha];omega,by rw[hn];omega,by rw[ha];right;omega,h.nlt,fun k x hx=> ?_,fun x hx=> ?_,fun k hk dB=> ?_,fun k h1 h2=> ?_⟩
 ·rw[hn];rw[hp]at hx;split at hx
  ·rcases List.mem_append.1 hx with hx|hx
   ·exact(h.lines k x hx).more (by omega)
   ·rw[jI.1 hx];exact i1 _ _ _ (by omega) (by omega) (by omega)
  ·split at hx
   ·rcases List.mem_append.1 hx with hx|hx
    ·exact(i3 x hx).1.more (by omega)
    ·rw[jI.1 hx];exact RL.OB (by omega)
   ·exact(h.lines k x hx).more (by omega)
 ·rw[ha,hp,ja (by omega),ja (by omega),jA,jG (by omega)]at hx;cases hx
 ·rw[hn]at hk;rw[ha]at dB;rw[hp];split
  ·rename_i e;right;exact⟨m.blocks.getD k [],_,rfl,i2,fun x hx=>h.mZ x (by rw[<-e];exact hx)⟩
  ·split
   ·right;exact⟨sd,_,rfl,by show 18<=18;omega,fun x hx=>(i3 x hx).2⟩
   ·rename_i e1 e2;exact h.rest k (by omega) e1
 ·rw[hp,ja (by omega),ja (by omega)];exact h.emp k h1 h2
theorem Hd.items:∀(is:List Item) {m:Mk},Hd q n m->(∀i∈is,N2 q q.blocks.length i)->Hd q n (m.items is)/\(m.items is).total=m.total+cE is
 |[],m,h,_=>⟨h,by simp[Mk.items,cE]⟩
 | .line l::is,m,h,hi=>by
  have h1:=hi _ (jM ..);have ih:=Hd.items is (h.line h1.1 h1.2) (fun i x=>hi i (jN _ x));refine⟨ih.1,ih.2.trans ?_⟩;rw[mM m [l] h.at_];show m.total+1+cE is=m.total+(1+cE is)
  omega
 | .fork t sd::is,m,h,hi=>by
  have h1:=hi _ (jM ..);have ih:=Hd.items is (h.fork h1) (fun i x=>hi i (jN _ x));refine⟨ih.1,ih.2.trans ?_⟩;rw[H5 m t sd h.at_];show m.total+(4+sd.length)+cE is=m.total+((4+sd.length)+cE is)
  omega
theorem D8.opens (h:D8 q n m)(hn:n<q.blocks.length):Hd q n ⟨m.blocks,n⟩:=
 ⟨jK hn h.len,h.len,.inl rfl,hn,h.lines,fun l hl=>(by
  have:l∈m.blocks.getD n []:=hl;rw[h.emp n (jC _) hn]at this;cases this),
  fun k hk dB=>(h.rest k hk).imp (fun x=>⟨by have:¬k=n:=dB;omega,x.2⟩) id,fun k h1 h2=>h.emp k (by omega) h2⟩
end
structure TQ (q:QP):Prop where
 IP:q.locals.length<=12
 ty:∀i,q.bN i<=3
 whole:∀b,b<q.blocks.length->Whole (q.blocks.getD b [])
 lines:∀b,∀l∈q.blocks.getD b [],SL q q.blocks.length l
theorem CG (q:QP){b:Nat}(hb:b<q.blocks.length):(q.blocks.take (b+1)).flatten.length=(q.blocks.take b).flatten.length+(q.blocks.getD b []).length:=by
 have e:q.blocks.take (b+1)=q.blocks.take b++[q.blocks.getD b []]:=by
  rw[List.take_add_one,jB hb,jA,jB hb];rfl
 rw[e,List.flatten_append,jV,List.flatten_cons,List.flatten_nil,List.append_nil]
theorem Ch {q:QP}(hq:TQ q)(E:List (List Nat))(hE:∀b,b<q.blocks.length->(E.getD b []).length=24)(un:List Bool):∀b,b<=q.blocks.length->
  D8 q b (cD q E un b)/\(cD q E un b).total<=q.blocks.length+15*(q.blocks.take b).flatten.length+(10*q.locals.length)*b
 |0,_=>by
  have hr:∀k,(List.replicate q.blocks.length ([]:List ab)).getD k []=[]:=fun k=>by
   rw[jA,jO];split<;>rfl
  refine⟨⟨by show _<=(List.replicate q.blocks.length ([]:List ab)).length;rw[List.length_replicate];exact jC _,fun k l hl=> ?_,fun k hk=> ?_,fun k _ _=>hr k⟩,?_⟩
  ·have:l∈(List.replicate q.blocks.length ([]:List ab)).getD k []:=hl;rw[hr k]at this;cases this
  ·left;have:k<(List.replicate q.blocks.length ([]:List ab)).length:=hk;rw[List.length_replicate]at this;exact⟨jQ _,this⟩
  ·show(List.replicate q.blocks.length ([]:List ab)).length+(List.replicate q.blocks.length ([]:List ab)).flatten.length<=_
   rw[List.length_replicate,List.flatten_replicate_nil];simp
 |b+1,hb=>by
  obtain⟨ih1,ih2⟩:=Ch hq E hE un b (by omega);have ak:=ih1.opens (by omega);have Yk:(⟨(cD q E un b).blocks,b⟩:Mk).total=(cD q E un b).total:=rfl;obtain⟨ls,e,he,kK,bU⟩:=hq.whole b (by omega);have Pa:=CG q (b:=b) (by omega);have hmul:(10*q.locals.length)*(b+1)=(10*q.locals.length)*b+10*q.locals.length:=by rw[Nat.mul_succ]
  have hlen:(q.blocks.getD b []).length=ls.length+1:=by rw[he];simp
  show D8 q (b+1) (mG q E un b (cD q E un b))/\(mG q E un b (cD q E un b)).total<=_
  unfold mG;split
  ·refine⟨ak.close (RL.OB (by omega)) (by show 18<=18;omega),?_⟩;rw[mM _ _ ak.at_,Yk];simp only[List.length_cons,List.length_nil];omega
  ·have lH:∀l∈q.blocks.getD b [],SL q q.blocks.length l:=hq.lines b;rw[he]at lH;obtain⟨is,i1,i2,i3⟩:=BH hq.IP hq.ty un (lH e (by simp)) kK ls (E.getD b []) (hE b (by omega)) (fun m hm=>⟨lH m (by simp[hm]),bU m hm⟩);rw[he,i1,iS];obtain⟨j1,j2⟩:=Hd.items is ak i2;refine⟨j1.close (RL.src (lH e (by simp)) (by omega)) kK,?_⟩;show(((⟨(cD q E un b).blocks,b⟩:Mk).items is).put [e]).total<=_
   rw[mM _ _ j1.at_,j2,Yk];simp only[List.length_cons,List.length_nil];omega
structure SZ (R:QP):Prop where
 whole:∀b,b<R.blocks.length->Whole (R.blocks.getD b [])
 lines:∀b,∀l∈R.blocks.getD b [],RL R R.blocks.length l
theorem qP {q R:QP}(h:R.locals=q.locals)(f:B):∀(ps:List (Nat×Nat)) (k:Nat),R.dN f ps k=q.dN f ps k
 |[],_=>rfl
 |x::ps,k=>by
  have h1:∀i,R.bN i=q.bN i:=fun i=>by unfold QP.bN;rw[h]
  have h2:R.aB x (f.getD k 0)=q.aB x (f.getD k 0):=by
   unfold QP.aB QP.kind;rw[h1]
  rw[QP.dN,QP.dN,h2,qP h f ps (k+1)]
theorem vU {q R:QP}(h:R.locals=q.locals)(l:ab):R.fits l=q.fits l:=by
 have h1:∀i,R.bN i=q.bN i:=fun i=>by unfold QP.bN;rw[h]
 have h2:∀x,R.aJ x=q.aJ x:=fun x=>by unfold QP.aJ;rw[h1]
 unfold QP.fits;rw[qP h,h2,h2]
theorem U3 {q:QP}(hq:TQ q)(E:List (List Nat))(hE:∀b,b<q.blocks.length->(E.getD b []).length=24):SZ (ki q E)/\(ki q E).blocks.length+(ki q E).blocks.flatten.length<=q.blocks.length+15*q.blocks.flatten.length+(10*q.locals.length)*q.blocks.length:=by
 obtain⟨h1,h2⟩:=Ch hq E hE (j5 q E q.blocks.length) q.blocks.length (jC _);rw[List.take_length]at h2;refine⟨⟨fun b hb=>((h1.rest b hb).resolve_left fun x=>by omega),fun b l hl=> ?_⟩,h2⟩;have:=h1.lines b l hl;exact⟨this.told,by rw[vU (q:=q) (R:=ki q E) rfl l];exact this.fits,this.has⟩
end El
namespace El
open Go Sq Aux Go.Proofs.YtmlgajhhnojdjaaGreatDoor.Own RunA RunB Ex Bal PrjS FlwA FlwB FlwC FlwD FlwE FlwF FlwG FlwH FlwI FlwJ FlwM FlwP FlwS FlwY
theorem LD (a c:List Nat)(y:Yd):fJ (a++c) y=fJ c (fJ a y):=List.foldl_append
theorem Au:∀(ps:List (Nat×Nat)) (o:Own.Own) {k:Nat},¬k∈ps.map ae->(Own.take ps o).2.boxes.getD k 0=o.boxes.getD k 0
 |[],_,_,_=>rfl
 |p::ps,o,k,h=>by
  rw[List.map_cons,jP,not_or]at h;rw[Own.take];refine(Au ps (o.clear p) h.2).trans ?_;show(o.boxes.set (ae p) 0).getD k 0=_
  rw[al,ja (fun e=>h.1 e.1.symm)]
section
variable {q:QP}
theorem tE:∀n,(∀x∈fi q n,x.1<n/\bA q x=false/\¬q.bN x.1=0)/\((fi q n).map ae).Nodup/\(fi q n).length<=2*n
 |0=>⟨fun x hx=>(by cases hx),List.nodup_nil,jC _⟩
 |n+1=>by
  obtain⟨h1,h2,h3⟩:=tE n;by_cases e:q.bN n=0
  ·have eb:bT q (n,0)=[]:=by
    have ek:q.aJ (n,0)=0:=by unfold QP.aJ;rw[ja (by simp)];exact e
    unfold bT;rw[jb ek]
   have ea:fi q (n+1)=fi q n:=by rw[fi,eb];rfl
   rw[ea];exact⟨fun x hx=>⟨by have:=(h1 x hx).1;omega,(h1 x hx).2⟩,h2,by omega⟩
  ·obtain⟨e1,e2,e3⟩:=pk (q:=q) (x:=(n,0)) e;have ea:fi q (n+1)=bT q (n,0)++fi q n:=rfl;rw[ea];refine⟨fun x hx=> ?_,?_,by rw[jV];omega⟩
   ·rcases List.mem_append.1 hx with hx|hx
    ·have:=(e2 x hx).2;exact⟨by rw[this];omega,(e2 x hx).1,by rw[this];exact e⟩
    ·exact⟨by have:=(h1 x hx).1;omega,(h1 x hx).2⟩
   ·rw[List.map_append,List.nodup_append,e1];refine⟨dZ q _,h2,fun a ha c hc eac=> ?_⟩;obtain⟨x,hx,rfl⟩:=List.mem_map.1 hc;rw[<-e1]at ha;obtain⟨y,hy,rfl⟩:=List.mem_map.1 ha;have g1:=(e2 y hy).2;have g2:=(h1 x hx).1;have:y.1=x.1:=by rw[<-bu y,<-bu x,eac]
    have:y.1=n:=g1;omega
theorem yP:∀(n:Nat) (o:Own.Own),(∀i,i<n->q.bN i=0->o.boxes.getD (2*i) 0=0)->(Own.dt q n o).yd=fJ ((fi q n).map o.box) o.yd
 |0,_,_=>rfl
 |n+1,o,hz=>by
  rw[Own.dt,yP n _ (fun i hi h0=>drop_zero _ o (.inr (hz i (by omega) h0)))];have hd:=dZ q (n,0);have hmap:(fi q n).map (o.drop (QP.ai q (n,0))).box=(fi q n).map o.box:=List.map_congr_left fun x hx=>by
   show(o.drop (QP.ai q (n,0))).boxes.getD (ae x) 0=o.boxes.getD (ae x) 0
   rw[(cL _ _).2.2.2];refine Au _ o fun hm=> ?_
   obtain⟨y,hy,e⟩:=List.mem_map.1 hm;have h1:=((tE (q:=q) n).1 x hx).1;have h2:y.1=n:=by
    rcases bo q (n,0)with⟨e1,-⟩|⟨e1,-⟩<;>rw[e1]at hy<;>simp at hy
    ·rw[hy]
    ·rcases hy with rfl|rfl<;>rfl
   have:y.1=x.1:=by rw[<-bu y,<-bu x,e]
   omega
  have ea:fi q (n+1)=bT q (n,0)++fi q n:=rfl;rw[hmap,ea,List.map_append,LD,drop_eq _ o hd];show fJ _ (fJ _ o.yd)=_
  congr 1;by_cases e:q.bN n=0
  ·have eb:bT q (n,0)=[]:=by
    have ek:q.aJ (n,0)=0:=by unfold QP.aJ;rw[ja (by simp)];exact e
    unfold bT;rw[jb ek]
   have eh:QP.ai q (n,0)=[(n,0)]:=by unfold QP.ai;rw[ja (by simp;omega)]
   have hb:o.box (n,0)=0:=by
    have:=hz n (by omega) e;unfold Own.box ae;simpa using this
   rw[eb,eh];simp[fJ,hb]
  ·rw[Kl (pk (q:=q) (x:=(n,0)) e).1]
end
section
variable {q:QP} {Rb:List (List ab)} {room:Int} {un:List Bool} {s g:List Nat} {o:Own.Own} {b:Br} {l:ab} {is:List Item} {rs:List ab}
theorem Om (h:qJ q un s g o b)(hl:eU q l)(bR:q.locals.length<=12)(hf:aE q l s=false)(hA:rb q un s l)(ak:l.op=22)(hL:Laid Rb (bB q un s l++is) rs):
  ∃m rs' b1,m<=100/\cS ⟨q.locals,Rb⟩ room m rs b (l::rs') b1/\b1.breaks ⟨q.locals,Rb⟩ l=false/\b1.val ⟨q.locals,Rb⟩ (ag l 0)=o.num (ag l 0)/\b1.yd=(o.dt q q.locals.length).yd:=by
 rw[rX (by omega)]at hL;have ez:aW q l=fi q q.locals.length:=by unfold aW;rw[ja (by omega),jb ak]
 unfold rb at hA;rw[qD (by omega) (by omega)]at hA;rw[ez]at hL hA;obtain⟨a1,a2,a3⟩:=tE (q:=q) q.locals.length;obtain⟨m,rs1,e1,e2,rs',rfl,e4⟩:=P7 (room:=room) h.ok h.le h.core h.j.2 (fun x hx hu=>h.YG _ (cx (by have:=(a1 x hx).1;omega)) (hA x hx (cx (by have:=(a1 x hx).1;omega)) hu)) (fun x hx=>⟨(a1 x hx).2.1,by have:=(a1 x hx).1;omega,(a1 x hx).2.2⟩) a2 h.yd hL;have hlen:l.places.length=1:=by rw[hl.ok.bt,ak];rfl
 have p0:=ba hl (j:=0) (by omega);have k0:=bj hl.fits (j:=0) (by omega);rw[ak]at k0;have k0:q.aB (ag l 0) 105=true:=k0;have f0:dv 2 (s.getD (ae (ag l 0)) 0)=false:=by
  unfold aE at hf;rw[ja (by omega),jb (by omega),iF]at hf;exact cV hf
 have c0:=GC.oP (Rb:=Rb) (b:={b with yd:=fJ ((fi q q.locals.length).map o.box) o.yd}) h.core k0 (by omega) (h.two (by omega) f0);refine⟨m,rs',_,by omega,e2,?_,by unfold Br.val;rw[c0],?_⟩
 ·unfold Br.breaks;rw[ja (by omega),jb (by omega)];unfold Br.empty;simp[c0]
 ·rw[yP _ o (fun i hi h0=>h.core.bi _ (by omega) (by rw[show 2*i/2=i by omega];exact h0))]
def Ends (a:Nat×Int×Own.Own)(r:Nat×Int×Br):Prop:=(a.1=2/\a.2.2.yd.trace<+:r.2.2.yd.trace)\/(r.1=a.1/\r.2.1=a.2.1/\r.2.2.yd=a.2.2.yd)
def Bu (q:QP)(room:Int)(F:Nat)(ls:List ab)(o:Own.Own)(r:Nat×Int×Br):Prop:=¬r.1=5/\∀f a,df q room f ls o=some a->200*f<=F->Ends a r
theorem mU {F:Nat}{ls rs:List ab}{r:Nat×Int×Br}(hy:b.yd=o.yd)(hr:da ⟨q.locals,Rb⟩ room F rs b=some r){a:Nat×Int×Own.Own}(ha:df q room 0 ls o=some a):Ends a r:=by
 have hp:=p4 _ _ _ _ _ _ hr;cases ls with
 |nil=>simp[df]at ha
 |cons l ls=>
  rw[df]at ha;cases ha;exact .inl ⟨rfl,by rw[hy]at hp;exact hp⟩
theorem CC {F m:Nat}{ls ls1 rs rs1:List ab}{o1:Own.Own}{b1:Br}{r:Nat×Int×Br}(hy:b.yd=o.yd)(hm:m<=200)(fy:cS ⟨q.locals,Rb⟩ room m rs b rs1 b1)(hr:da ⟨q.locals,Rb⟩ room F rs b=some r)(Bb:∀f,df q room (f+1) ls o=df q room f ls1 o1)
  (ih:m<=F->da ⟨q.locals,Rb⟩ room (F-m) rs1 b1=some r->Bu q room (F-m) ls1 o1 r):Bu q room F ls o r:=by
 rcases Cy fy F r hr with⟨h1,h2⟩|⟨h1,h2⟩
 ·obtain⟨g1,g2⟩:=ih h1 h2;refine⟨g1,fun f a ha hF=> ?_⟩;cases f with
  |zero=>exact mU hy hr ha
  |succ f=>
   rw[Bb]at ha;exact g2 f a ha (by omega)
 ·refine⟨by omega,fun f a ha hF=> ?_⟩;cases f with
  |zero=>exact mU hy hr ha
  |succ f=>omega
theorem vf {F m:Nat}{ls rs rs1:List ab}{b1:Br}{r:Nat×Int×Br}{r1:Nat×Int×Br}{a1:Nat×Int×Own.Own}(hy:b.yd=o.yd)(hm:m<=100)(fy:cS ⟨q.locals,Rb⟩ room m rs b rs1 b1)(hr:da ⟨q.locals,Rb⟩ room F rs b=some r)(Bb:∀f,df q room (f+1) ls o=some a1)
  (hb:∀f,da ⟨q.locals,Rb⟩ room (f+1) rs1 b1=some r1) (h0:∀r,da ⟨q.locals,Rb⟩ room 0 rs1 b1=some r->r.1=2) (h5:¬r1.1=5) (he:Ends a1 r1):Bu q room F ls o r:=by
 rcases Cy fy F r hr with⟨h1,h2⟩|⟨h1,h2⟩
 ·cases hk:F-m with
  |zero=>
   rw[hk]at h2;have:=h0 r h2;refine⟨by omega,fun f a ha hF=> ?_⟩;cases f with
   |zero=>exact mU hy hr ha
   |succ f=>omega
  |succ k=>
   rw[hk,hb]at h2;cases h2
   refine⟨h5,fun f a ha hF=> ?_⟩;cases f with
   |zero=>exact mU hy hr ha
   |succ f=>rw[Bb]at ha;cases ha;exact he
 ·refine⟨by omega,fun f a ha hF=> ?_⟩;cases f with
  |zero=>exact mU hy hr ha
  |succ f=>omega
theorem se {l:ab}{ls:List ab}{R:QP}{b:Br}(r:Nat×Int×Br)(h:da R room 0 (l::ls) b=some r):r.1=2:=by rw[da]at h;cases h;rfl
theorem SJ (bR:q.locals.length<=12)(D5:∀i,q.bN i<=3)(hS:Shape q)(hq:AE q.blocks.length q)(U:List (List Nat))(hU:oe q (fun b=>U.getD b []))(hfull:∀b,b<q.blocks.length->U.getD b []=au\/Full (U.getD b []))
  (gv:∀b,b<q.blocks.length->¬U.getD b []=au->dA q (q.blocks.getD b []) (U.getD b [])=none) (hAsk:∀b,b<q.blocks.length->qN q un (q.blocks.getD b []) (U.getD b [])) (hLB:∀b,b<q.blocks.length->vJ q U un Rb b) (room:Int):
  ∀(F:Nat) (ls:List ab) (s g:List Nat) (o:Own.Own) (b:Br) (rs:List ab) (r:Nat×Int×Br),Whole ls->(∀l∈ls,eU q l)->Full s->dA q ls s=none->(∀x∈fT q ls s,jv x.2 (U.getD x.1 []))->qN q un ls s->qJ q un s g o b->Laid Rb (bO q un ls s) rs->
   da ⟨q.locals,Rb⟩ room F rs b=some r->Bu q room F ls o r:=by
 intro F;induction F using Nat.strongRecOn with
 |_ F ihF=>
  intro ls;induction ls with
  |nil=>
   intro s g o b rs r hw;obtain⟨us,t,e,-⟩:=hw;simp at e
  |cons l ls ihL=>
   intro s g o b rs r hw pK hf Is hout hA h hL hr;have hl:=pK l (jM ..);have H:=BG (q:=q) bR;rw[dA]at Is;have Dd:aE q l s=false:=by
    cases hv:aE q l s with
    |false=>rfl
    |true=>rw[hv,jb rfl]at Is;cases Is
   rw[Dd,ja (by decide)]at Is;have hL:Laid Rb (bB q un s l++bO q un ls (aq q l s)) rs:=hL;have S4:rb q un s l:=hA.1;rcases sc hw with⟨kK,rfl⟩|⟨kK,QT⟩
   ·have ho:=pX hl;unfold ik at ho;by_cases AW:l.op=22
    ·obtain⟨m,rs',b1,e1,e2,e3,e4,e5⟩:=Om (room:=room) h hl bR Dd S4 AW hL;refine vf (r1:=(1,o.num (ag l 0),b1)) (a1:=(1,o.num (ag l 0),o.dt q q.locals.length)) h.yd e1 e2 hr (fun f=> ?_) (fun f=> ?_) se (fun e=>by cases e) (.inr ⟨rfl,rfl,e5⟩)
     ·rw[df,ja (by omega),ja (by omega),ja (by omega),jb AW]
     ·rw[da,e3,ja (by decide),ja (by omega),ja (by omega),ja (by omega),jb AW,e4]
    ·have ak:l.op=18\/l.op=19\/l.op=20:=by omega
     have iP:l.next.length=if l.op=18 then 1 else 2:=by
      rw[hl.ok.pa];rcases ak with e|e|e<;>rw[e]<;>rfl
     have hi:(if o.other l then 1 else 0)<l.next.length:=by
      rw[iP];by_cases e:l.op=18
      ·have:o.other l=false:=by rw[Own.other,ja (by omega),ja (by omega)]
       rw[this,jb e];decide
      ·rw[ja e];split<;>omega
     have hp:aq q l s=s:=kV (by rcases ak with e|e|e<;>rw[e]<;>rfl) (by omega) (by omega) (by omega);have mw:=Kr l s hi (by rw[iP];split<;>omega);have hle:=hout (l.next.getD (if o.other l then 1 else 0) 0,dm l (if o.other l then 1 else 0) s) (by rw[fT,hp];exact List.mem_append_left _ mw);have hb:l.next.getD (if o.other l then 1 else 0) 0<q.blocks.length:=hl.ok.next _ (by rw[jA,jB hi];exact jL _);have fy:=fV l (if o.other l then 1 else 0) h.ok;have dB:=eF fy hle (yg (mq l _ hf));have hJ:=H.mono _ _ _ fy (hU.ok _ hb) hle (H.term l s o hl ak h.ok Dd h.j);obtain⟨b1,b2,b3⟩:=Je (Rb:=Rb) h hl bR Dd ak;have ez:aW q l=[]:=by unfold aW;rw[ja (by omega),ja (by omega)]
     rw[rX (by omega),ez]at hL;obtain⟨rs',rfl,hrs⟩:=hL;have hrs:rs'=[]:=hrs;subst hrs;have h1:ix ⟨q.locals,Rb⟩ room l [] b=some (Rb.getD (l.next.getD (if o.other l then 1 else 0) 0) [],b):=by
      unfold ix;rw[b1,ja (by decide),ja (by omega),ja (by omega),jb (by omega),jb rfl,b2]
     have AJ:=hLB _ hb;rw[vJ,ja dB]at AJ;refine CC h.yd (by omega) (.one h1) hr (fun f=> ?_) (fun hm lh=> ?_)
      (ls1:=q.blocks.getD (l.next.getD (if o.other l then 1 else 0) 0) []) (o1:=o)
     ·rw[df,ja (by omega),ja (by omega),jb ak,jb rfl]
     ·exact ihF (F-1) (by omega) _ _ g o b _ r (hS.whole _ hb) (fun m hm=>⟨hq.lines _ (dn hm) m hm,hS.has _ m hm,hS.fits _ m hm⟩) ((hfull _ hb).resolve_left dB) (gv _ hb dB) (fun x hx=>hU.step _ hb dB x hx) (hAsk _ hb) ⟨h.core,h.yd,h.aO,h.fl,h.YG,ks b3 hle,hU.ok _ hb,hJ⟩ AJ lh
   ·have lg:=Co hl kK;have Cc:=fU q l h.ok;have YW:=tS q (TE bR hl) hf;have Kc:∀x∈fT q ls (aq q l s),jv x.2 (U.getD x.1 []):=fun x hx=>hout x (by rw[fT,lg];simpa [mJ,SN]using hx)
    have go:∀o':Own.Own,(∀f,df q room (f+1) (l::ls) o=df q room f ls o')->(∃m rs' b',m<=200/\cS ⟨q.locals,Rb⟩ room m rs b rs' b'/\Laid Rb (bO q un ls (aq q l s)) rs'/\qJ q un (aq q l s) (aq q l g) o' b')->Bu q room F (l::ls) o r:=fun o' Bb hx=>by
     obtain⟨m,rs',b',e1,e2,e3,e4⟩:=hx;refine CC h.yd e1 e2 hr Bb (fun hm lh=> ?_);by_cases hm0:m=0
     ·subst hm0;rw[Nat.sub_zero]at lh⊢;exact ihL _ _ o' b' rs' r QT (fun m hm=>pK m (jN _ hm)) YW Is Kc hA.2 e4 e3 lh
     ·exact ihF (F-m) (by omega) ls _ _ o' b' rs' r QT (fun m hm=>pK m (jN _ hm)) YW Is Kc hA.2 e4 e3 lh
    rcases pX hl with A9|ak|ak|ak|ak|ak|ak
    ·obtain⟨hn,hJ⟩:=H.cz l s o hl A9 h.ok Dd h.j;refine go (o.cz q l) (fun f=> ?_) (Mr h hl bR D5 Dd S4 A9 hJ hL);have OS:=A9;unfold ik at OS;rw[df,ja (by omega),ja (by omega),ja (by omega),ja (by omega),jb hn]
    ·by_cases hz:o.num (ag l 2)=0
     ·obtain⟨a1,-,a3,-⟩:=oh (Rb:=Rb) h hl bR Dd (by omega);have ez:aW q l=[]:=by unfold aW;rw[ja (by omega),ja (by omega)]
      rw[eX,ja (by omega)]at hL;obtain⟨rs',rfl,-⟩:=yY ez hL;refine vf (r1:=(4,0,b)) (a1:=(4,0,o)) h.yd (jQ _) (.refl _ _) hr (fun f=> ?_) (fun f=> ?_) se (fun e=>by cases e) (.inr ⟨rfl,rfl,h.yd⟩)
      ·rw[df,jb ak,jb hz]
      ·rw[da,a1,ja (by decide),jb ak,a3,jb hz]
     ·refine go (o.calc l) (fun f=> ?_) (Oe h hl bR Dd ak hz (H.Wc l s o hl ak h.ok Dd h.j) hL);rw[df,jb ak,ja hz]
    ·by_cases hrm:(o.drop [ag l 0]).yd.live≥room
     ·rw[eX,ja (by omega)]at hL;obtain⟨m,rs1,e1,e2,rs',rfl,-⟩:=Cn (room:=room) h hl bR Dd S4 ak hL;obtain⟨v1,-⟩:=FV (Rb:=Rb) (b1:={b with yd:=(o.drop [ag l 0]).yd}) h hl bR Dd ak rfl;refine vf (r1:=(3,0,{b with yd:=(o.drop [ag l 0]).yd})) (a1:=(3,0,o.drop [ag l 0])) h.yd (by omega) e2 hr (fun f=> ?_) (fun f=> ?_) se (fun e=>by cases e) (.inr ⟨rfl,rfl,rfl⟩)
      ·rw[df,ja (by omega),jb ak,jb hrm]
      ·rw[da,v1,ja (by decide),ja (by omega),jb ak,jb hrm]
     ·refine go ((o.drop [ag l 0]).new (ag l 0) (o.num (ag l 1))) (fun f=> ?_) (PW h hl bR Dd S4 ak hrm (H.new l s o hl ak h.ok Dd h.j) hL);rw[df,ja (by omega),jb ak,ja hrm]
    ·omega
    ·omega
    ·omega
    ·omega
end
end El
namespace El
open Go Sq Aux Go.Proofs.YtmlgajhhnojdjaaGreatDoor.Own RunA RunB Ex Bal PrjS FlwA FlwB FlwC FlwD FlwE FlwF FlwG FlwH FlwI FlwJ FlwM FlwP FlwQ FlwS FlwV FlwY
theorem GB {k:Nat}(hk:k<24):aT.getD k 0=1:=by
 show(List.replicate 24 1).getD k 0=1;rw[jA,jO,jb hk];rfl
theorem GD:ey aT:=⟨by decide,fun k=>by
 by_cases hk:k<24
 ·rw[GB hk];decide
 ·rw[jA,jG (by show(List.replicate 24 1).length<=k;simp;omega)];decide⟩
theorem GK {q:QP}(hq:AE q.blocks.length q)(i:Nat):q.bN i<=3:=by
 unfold QP.bN;rw[jA];cases h:q.locals[i]? with
 |none=>exact jQ _
 |some x=>exact hq.types x (List.mem_of_getElem? h)
theorem Oj {text:B}{p:RP}{q:QP}{E:List (List Nat)}(hD:oZ text p q E)(QS:az text false=(some q,0,0))(hn:aQ (cC q E) q.blocks.length 0=none)(aO:List Int)(room:Int)(F:Nat){r:Nat×Int×Br}
  (hr:da (ki q E) room F ((ki q E).blocks.getD 0 []) (Br.start aO)=some r):Bu q room F (q.blocks.getD 0 []) (Own.start aO) r:=by
 have hS:=oI QS;have hq:=hD.both.Kt;have bU:=hD.both.k8;have hI:=hD.inv.inv;have hU:oe q (fun b=>E.getD b []):=⟨fun b hb=>hD.ok hb,hI.start,fun b hb hz x hx=>hI.step b hb rfl hz x hx⟩;have h0:¬E.getD 0 []=au:=eF GD hI.start (yg oq);have gv:∀b,b<q.blocks.length->¬E.getD b []=au->dA q (q.blocks.getD b []) (E.getD b [])=none:=fun b hb hz=>by
  have:=kH _ _ _ hn b (jQ _) (by omega);rw[cC,ja hz]at this;exact this
 have AJ:=Gk q E hD.pos;rw[vJ,ja h0]at AJ;have hJ:=(BG (q:=q) bU).mono _ _ _ GD (hD.ok hD.pos) hI.start ⟨CB q aO,Nn q aO⟩;refine SJ (un:=j5 q E q.blocks.length) (Rb:=(ki q E).blocks) bU (GK hq) hS hq E hU hD.inv.full gv (fun b hb=>BF q E hb) (fun b hb=>Gk q E hb) room F (q.blocks.getD 0 []) (E.getD 0 []) aT (Own.start aO) (Br.start aO) _ r (hS.whole 0 hD.pos) (fun m hm=>⟨hq.lines _ (dn hm) m hm,hS.has _ m hm,hS.fits _ m hm⟩) ((hD.inv.full 0 hD.pos).resolve_left h0) (gv 0 hD.pos h0) (fun x hx=>hU.step 0 hD.pos h0 x hx) (BF q E hD.pos) ?_ AJ hr;refine⟨GC.start q,rfl,rfl,by simp[Br.start],fun k hk _=> ?_,hI.start,hD.ok hD.pos,hJ⟩;rw[GB hk];show(List.replicate 50 false).getD k false=_
 rw[jA,jO];split<;>rfl
def V8 (l m:ab):Prop:=l.op=m.op/\l.places=m.places/\l.number=m.number/\l.flag=m.flag/\l.next=m.next
theorem Sh {l m:ab}(h:V8 l m):∃n,l={m with num:=n}:=by
 obtain⟨h1,h2,h3,h4,h5⟩:=h;refine⟨l.num,?_⟩;cases l;cases m
 simp only at*;subst h1 h2 h3 h4 h5;rfl
def yt:List ab->List ab->Prop
 |[],[]=>True
 |l::ls,m::ms=>V8 l m/\yt ls ms
 |_,_=>False
theorem vS {ls:List (B×Nat)}(A C:List (List ab))(ts fs:List (Nat×Nat))(b:Br):∀k,Br.dS ⟨ls,A⟩ ts fs k b=Br.dS ⟨ls,C⟩ ts fs k b
 |0=>rfl
 |k+1=>by rw[Br.dS,Br.dS,vS A C ts fs b k];rfl
theorem MG {ls:List (B×Nat)}(A C:List (List ab))(b:Br)(t f:Nat×Nat):b.move ⟨ls,A⟩ t f=b.move ⟨ls,C⟩ t f:=by
 have e:b.fE ⟨ls,A⟩ t f=b.fE ⟨ls,C⟩ t f:=vS A C _ _ b _;unfold Br.move;rw[e];rfl
theorem Of {ls:List (B×Nat)}(A C:List (List ab))(b:Br)(m:ab)(n:Nat):b.cz ⟨ls,A⟩ {m with num:=n}=b.cz ⟨ls,C⟩ m:=by
 unfold Br.cz;rw[show b.move ⟨ls,A⟩ (ag {m with num:=n} 0) (ag {m with num:=n} 1)=b.move ⟨ls,C⟩ (ag m 0) (ag m 1)from MG A C b _ _];rfl
theorem Ag {ls:List (B×Nat)}{A C:List (List ab)}(hAC:∀j,yt (A.getD j []) (C.getD j []))(room:Int):∀(f:Nat) (l m:List ab) (b:Br),yt l m->da ⟨ls,A⟩ room f l b=da ⟨ls,C⟩ room f m b
 |f,[],[],b,_=>by cases f<;>rfl
 |f,[],_::_,b,h=>by cases h
 |f,_::_,[],b,h=>by cases h
 |0,_::_,_::_,b,_=>rfl
 |f+1,l::ls',m::ms,b,h=>by
  obtain⟨n,rfl⟩:=Sh h.1;have oz:ls'=[]↔ms=[]:=by
   have:=h.2;cases ls'<;>cases ms<;>simp_all [yt]
  have e1:=fun b'=>Ag (ls:=ls) hAC room f ls' ms b' h.2
  have e2:=fun j=>Ag (ls:=ls) hAC room f (A.getD j []) (C.getD j []) b (hAC j)
  rw[da,da];have k1:b.breaks ⟨ls,A⟩ {m with num:=n}=b.breaks ⟨ls,C⟩ m:=rfl;have k2:b.val ⟨ls,A⟩ (ag {m with num:=n} 2)=b.val ⟨ls,C⟩ (ag m 2):=rfl;have k3:b.calc ⟨ls,A⟩ {m with num:=n}=b.calc ⟨ls,C⟩ m:=rfl;have k4:b.new ⟨ls,A⟩ (ag {m with num:=n} 0) (b.val ⟨ls,A⟩ (ag {m with num:=n} 1))=b.new ⟨ls,C⟩ (ag m 0) (b.val ⟨ls,C⟩ (ag m 1)):=rfl;have k5:b.other ⟨ls,A⟩ {m with num:=n}=b.other ⟨ls,C⟩ m:=rfl;have k6:b.cz ⟨ls,A⟩ {m with num:=n}=b.cz ⟨ls,C⟩ m:=Of A C b m n;have k7:b.val ⟨ls,A⟩ (ag {m with num:=n} 0)=b.val ⟨ls,C⟩ (ag m 0):=rfl;rw[k1,k2,k3,k4,k5,k6,k7,e1,e1,e1];have e3:=e2 (m.next.getD (if b.other ⟨ls,C⟩ m then 1 else 0) 0);simp only[oz,e3]
end El
end Go.Proofs.YtmlgajhhnojdjaaGreatDoor

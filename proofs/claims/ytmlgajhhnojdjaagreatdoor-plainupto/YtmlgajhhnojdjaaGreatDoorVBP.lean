import Derived.Test.YtmlgajhhnojdjaaGreatDoorVBO
set_option maxHeartbeats 8000000
namespace Go.Proofs.YtmlgajhhnojdjaaGreatDoor
namespace El
open Go Sq Aux Go.Proofs.YtmlgajhhnojdjaaGreatDoor.Own RunA RunB Ex Bal PrjS FlwA FlwB FlwC FlwD FlwE FlwF FlwG FlwH FlwI FlwJ FlwM FlwP FlwQ FlwS FlwV FlwY
theorem pV {k:Nat}(hk:k<24):aA.getD k 0=1:=by
 show(List.replicate 24 1).getD k 0=1;rw[jA,jO,jb hk];rfl
theorem Jm:dn aA:=⟨by decide,fun k=>by
 by_cases hk:k<24
 ·rw[pV hk];decide
 ·rw[jA,jG (by show(List.replicate 24 1).length<=k;simp;omega)];decide⟩
theorem Jw {q:QP}(hq:vZ q.blocks.length q)(i:Nat):q.cF i<=3:=by
 unfold QP.cF;rw[jA];cases h:q.locals[i]? with
 |none=>exact jQ _
 |some x=>exact hq.types x (List.mem_of_getElem? h)
end El
namespace El
open Go Sq Aux RefRa PrjS RunA MadA Bal
def db (q:QP):List B:=q.locals.map lY++q.blocks.flatMap (fun b=>bX::b.map (lj q.locals))
def re (q:QP):B:=Lib.join (db q) [10]
structure gD (q:QP):Prop where
 names:∀x∈q.locals,isName x.1=true
 types:∀x∈q.locals,x.2<=3
 nodup:(q.locals.map (·.1)).Nodup
 l1:0<q.locals.length
 CE:q.locals.length<=12
 b1:0<q.blocks.length
 sum:q.locals.length+q.blocks.length+q.blocks.flatten.length<=4000
 raw:Mh q
section
variable {q:QP}
theorem gD.two (h:gD q):2*q.blocks.length<=q.blocks.length+q.blocks.flatten.length:=by
 have key:∀L:List (List ab),(∀b∈L,1<=b.length)->L.length<=L.flatten.length:=fun L hL=>by
  induction L with
  |nil=>simp
  |cons a L ih=>
   have:=ih (fun b hb=>hL b (jN _ hb));have:=hL a (jM ..);rw[jY,List.flatten_cons,jV];omega
 have:=key q.blocks (fun b hb=>by
  obtain⟨k,hk,rfl⟩:=List.getElem_of_mem hb;have:=h.raw.whole k hk;rw[jA,jB hk]at this;obtain⟨ls,l,e,-⟩:=this;have e':q.blocks[k]=ls++[l]:=e;rw[e'];simp)
 omega
theorem Eu {L:List (List ab)}{b:List ab}(hb:b∈L):∃k,k<L.length/\L.getD k []=b:=by
 obtain⟨k,hk,rfl⟩:=List.getElem_of_mem hb;exact⟨k,hk,by rw[jA,jB hk];rfl⟩
theorem gD.line (h:gD q){b:List ab}(hb:b∈q.blocks){l:ab}(hl:l∈b):RL q q.blocks.length l:=by
 obtain⟨k,-,e⟩:=Eu hb;exact h.raw.lines k l (by rw[e];exact hl)
theorem gD.jt (h:gD q):q.blocks.length<=2000:=by have:=h.two;have:=h.sum;omega
theorem oV (h:gD q):∀t∈db q,¬(10:UInt8)∈t/\t.length<=88:=fun t ht=>by
 have hf:=h.jt;rcases List.mem_append.1 ht with ht|ht
 ·obtain⟨x,hx,rfl⟩:=List.mem_map.1 ht;exact⟨Oj (h.names x hx) (h.types x hx),IH (h.names x hx) (h.types x hx)⟩
 ·obtain⟨b,hb,ht⟩:=List.mem_flatMap.1 ht;rcases jP.1 ht with rfl|ht
  ·exact⟨by decide,by decide⟩
  ·obtain⟨l,hl,rfl⟩:=List.mem_map.1 ht;have hr:=(h.line hb hl).told;exact⟨LF h.names (by omega) hr,Fq h.names (by omega) hr⟩
theorem lM (ls:List (B×Nat)):∀L:List (List ab),(L.flatMap (fun b=>bX::b.map (lj ls))).length=L.length+L.flatten.length
 |[]=>rfl
 |b::L=>by
  rw[List.flatMap_cons,jV,lM ls L,List.flatten_cons,jV,jY,jc,jY];omega
theorem ix (q:QP):(db q).length=q.locals.length+q.blocks.length+q.blocks.flatten.length:=by
 unfold db;rw[jV,jc,lM];omega
theorem Dh (h:gD q):split 10 (re q)=db q:=by
 have hl:=ix q;have h1:=h.l1;unfold re;cases e:db q with
 |nil=>rw[e]at hl;simp at hl;omega
 |cons a l=>exact kT 10 l a (fun b hb=>(oV h b (by rw[e];exact hb)).1)
theorem Gy (h:gD q):(re q).length<=400000:=by
 have:=j6 (n:=88) 10 (db q) (fun b hb=>(oV h b hb).2);rw[ix]at this;have:=h.sum;unfold re;omega
end
end El
namespace El
open Go Go.RowKit Sq Aux Go.Proofs.YtmlgajhhnojdjaaGreatDoor.Own RefRa PrjF PrjG PrjJ PrjK PrjL PrjM PrjO PrjP PrjQ PrjS PrjT PrjU FlwA FlwB FlwE FlwM
structure vA (w wr:World)(v:Value)(D:List B):Prop where
 row:wr.ownsRow w.heap.size 9 1 v D.length (cellsOf D)
 bz:Below w.heap.size w wr
section
variable {w wr w1 w3:World} {v v':Value} {D:List B}
theorem vA.on (h:vA w wr v D)(hb:Below wr.heap.size wr w1):vA w w1 v D:=⟨al h.row hb,h.bz.trans (hb.mono h.bz.size)⟩
theorem vA.push (h:vA w wr v D){o:Obj}{b:B}{n:Nat}(hn:n=D.length+1)(eG:w3.ownsRow w.heap.size 9 1 v' n (cellsOf D++[.string (bs b)]))(hg:(wr.alloc o).grownBy w3 v.ownBlock):vA w w3 v' (D++[b]):=by
 refine⟨?_,cq h.bz (jC _) h.bz.size h.row hg⟩;subst hn;have e:cellsOf (D++[b])=cellsOf D++[.string (bs b)]:=by simp[cellsOf]
 rw[e,jV];exact eG
end
theorem L6:(⟨#[32]⟩:ByteArray).toList=[32]:=bp [32]
theorem II (x:B×Nat):lY x=eD++[32]++x.1++[32]++bZ.getD x.2 []:=by
 unfold lY CG;rw[fv,fv,Lib.join_one];simp
def lG (ls:List (B×Nat))(L:List (List ab)):List B:=L.flatMap (fun b=>bX::b.map (lj ls))
theorem CB {w wr:World}{v:Value}{D:List B}(h:vA w wr v D)(hn:D.length<=4000)(hl:∀b∈D,b.length<=88):
  Calls Tryz.prog 83 #[v,.string ⟨#[10]⟩] wr fun e w'=>e=.returned (.string (bs (Lib.join D [10])))/\Below wr.heap.size wr w':=by
 obtain⟨dY,-⟩:=h;cases D with
 |nil=>
  have h':∃ad c,v=.slice ad 0 c:=by
   rcases dY.2 with⟨e,-⟩|⟨g,cap,cur,e,-⟩
   ·exact⟨none,0,e⟩
   ·exact⟨_,cap,e⟩
  obtain⟨ad,c,rfl⟩:=h';refine(Tryz.strings_Join_none ad c ⟨#[10]⟩ wr).mono fun e w' ⟨he,hw'⟩=>⟨?_,by rw[hw'];exact Below.refl _ _⟩
  rw[he];rfl
 |cons a r=>
  obtain⟨g,cap,rfl,hc,hg,aQ⟩:=bL dY (by simp);have hlen:=j6 (n:=88) 10 (a::r) hl;have e:((a::r).map bs).map (fun x=>x.data.toList)=a::r:=by
   rw[List.map_map];have:((fun x:ByteArray=>x.data.toList)∘bs)=id:=funext x9;rw[this,List.map_id]
  have K:=Tryz.strings_Join g 0 cap ((a::r).map bs) ⟨#[10]⟩ wr (fun j v hv=>by
   rw[jJ,Option.map_eq_some_iff]at hv;obtain⟨b,hb,rfl⟩:=hv;have hj:j<(a::r).length:=by
    by_cases hj:j<(a::r).length
    ·exact hj
    ·rw[jG (by omega)]at hb;cases hb
   rw[Nat.zero_add,aQ j (by omega),cellsOf,jJ,hb];rfl) hg (by rw[jc];omega) (by rw[jc];exact hc) (by
    rw[e];show(Lib.join (a::r) [10]).length<=_
    omega)
  rw[jc]at K;refine K.mono fun e' w' ⟨he,hw'⟩=>⟨?_,hw'⟩
  rw[he,e];rfl
section
variable {z a:Nat} {w:World} {q:QP} {vl vb:Value} {us:List Value} {vss:List (List (Value×Value))}
set_option maxRecDepth 20000 in
theorem Jt (h:fe z a w q vl vb us vss)(ok:gD q)(E:Env w)(hS:ks w)(hP:Pow w):
  Calls Tryz.prog 51 #[.pointer (some ⟨a,0,none⟩)] w fun e w'=>e=.returned (.string (bs (re q)))/\Below w.heap.size w w':=by
 obtain⟨i,hi,yw,oY,oZ⟩:=info_parts s8;have vr:=ok.l1;have oE:=ok.CE;have aB:=ok.b1;have Pa:=ok.jt;obtain⟨p0,p1,-,-⟩:=fe.facts h;have halt:=h.lt;have vJ:eT w vl q.locals:=⟨z,h.locals⟩;obtain⟨gl,cl,rfl,DS,rH,GN⟩:=(mE vJ).resolve_left (fun e=>by rw[e.1]at vr;simp at vr);obtain⟨gb,cb,rfl,ym,sX,-⟩:=bL h.blocks aB;have rG:(db q).length<=4000:=by rw[ix];exact ok.sum
 have HT:Hid (db q=[]++((q.locals.drop 0).map lY++lG q.locals (q.blocks.drop 0))):=rfl;have HS:Hid (∀t∈db q,t.length<=88):=fun t ht=>(oV ok t ht).2
 go_enter Tryz.func51,Tryz.ntmps51
 go_wp2
 go_loopg [3,15] (q.locals.length) (fun g v3 v15 wr=>∃(k:Nat) (D:List B),k<=q.locals.length/\g+k=q.locals.length/\v15=.int .i64 k/\vA w wr v3 D/\Hid (db q=D++((q.locals.drop k).map lY++lG q.locals (q.blocks.drop 0))))
 case atStart=>exact⟨0,[],jQ _,rfl,rfl,⟨World.ownsRow_nil _ _ _ _,Below.refl _ _⟩,HT⟩
 case round=>
  clear HT;obtain⟨k,D,hk,yp,rfl,hD,HD⟩:=hrel;have PU:D.length<=4000:=by have:=congrArg List.length HD.out;rw[jV]at this;omega
  by_cases aP:k<q.locals.length
  ·
   have za:q.locals.drop k=q.locals[k]::q.locals.drop (k+1):=jE aP;have Ia:q.locals.getD k ([],0)=q.locals[k]:=by rw[jA,jB aP];rfl
   obtain⟨rX,vq⟩:=GN k aP;rw[Ia]at rX vq;have kF:q.locals[k]∈q.locals:=jL aP;have vK:=(kL (ok.names _ kF)).2;have GP:=ok.types _ kF;have HN:Hid (db q=(D++[lY q.locals[k]])++((q.locals.drop (k+1)).map lY++lG q.locals (q.blocks.drop 0))):=by
    unfold Hid;rw[HD.out,za,List.map_cons,List.append_assoc];rfl
   have r1:=(hD.bz.cell (p:=⟨gl,k*2,none⟩) rH).trans rX;have r2:=(hD.bz.cell (p:=⟨gl,k*2+1,none⟩) rH).trans vq;have EX:(k:Int)<q.locals.length:=by omega
   have HE:Hid (lY q.locals[k]=eD++[32]++q.locals[k].1++[32]++bZ.getD q.locals[k].2 []):=II _;clear za Ia rX vq kF HD;generalize q.locals[k]=x at*;obtain⟨nm,ty⟩:=x;simp only at vK GP r1 r2;have ko:Below wr.heap.size wr (wr.alloc (.cells #[.string (bs nm),.int .i64 (ty:Nat)] 146)):=(Below.refl _ _).alloc (jC _) _;have vw:(wr.alloc (.cells #[.string (bs nm),.int .i64 (ty:Nat)] 146)).heap[wr.heap.size]?=some (.cells #[.string (bs nm),.int .i64 (ty:Nat)] 146 (0,0)):=jD;go_upto_region 5 with fail
   generalize (wr.alloc (.cells #[.string (bs nm),.int .i64 (ty:Nat)] 146))=WL at*;have GK:=hD.on ko;have l0:=(cell_of_heap vw 0).trans (by rfl:_=some (Value.string (bs nm)));have l1:=(cell_of_heap vw 1).trans (by rfl:_=some (Value.int .i64 (ty:Nat)));have rJ:=qF (E.on GK.bz) 0 (by decide);have DX:=GC (E.on GK.bz) ty GP;have Zw:(bZ.getD ty []).length<=4:=(M6 ⟨ty,by omega⟩).2.1;have Zp:(bD 0).length<=5:=by decide
   have YO:(ty:Int)<4:=by omega
   have HO:Hid (bD 0=eD):=rfl;have py:=GK.bz.size;simp only[Nat.zero_mul]at rJ;generalize bZ.getD ty []=tw at*;generalize bD 0=ow at*;have Yq:¬9223372036854775807<ow.length+1:=by omega
   have Yr:¬9223372036854775807<ow.length+1+nm.length:=by omega
   have Ys:¬9223372036854775807<ow.length+1+nm.length+1:=by omega
   have Yt:¬9223372036854775807<ow.length+1+nm.length+1+tw.length:=by omega
   clear hD ko r1 r2;go_region_law (refine xU (by rfl) _ _ _ (by rfl) w.heap.size 9 i (.string ⟨#[]⟩) 16 Tryz.underlying34 hi yw oY oZ (by rfl) _ _ _ (by rfl) (al GK.row (show Below WL.heap.size WL WL.drew from⟨rfl,rfl,rfl,jC _,fun _ _=>rfl⟩)) _ (by rfl) (by rfl) (by decide) (by omega) py ?_;intro g2 c2' w2 hown2 hgrow2 hat2 sZ)
   all_goals go_wp2_with fail
   all_goals
    have jm:(WL.alloc (.cells #[.string (bs ow++⟨#[32]⟩++bs nm++⟨#[32]⟩++bs tw)] 9)).grownBy w2 _:=⟨hgrow2.os,hgrow2.tape,hgrow2.output,hgrow2.size,hgrow2.block⟩;have e:bs ow++⟨#[32]⟩++bs nm++⟨#[32]⟩++bs tw=bs (lY (nm,ty)):=DH (by rw[HE.out,dJ,dJ,dJ,dJ,bp,bp,bp,HO.out,L6]);rw[e]at hown2;go_roundg (q.locals.length-(k+1))
    case measure=>omega
    case rel=>exact⟨k+1,D++[lY (nm,ty)],by omega,by omega,by go_num,GK.push rfl hown2 jm,HN⟩
  ·
   have la:k=q.locals.length:=by omega
   subst la;have Vb:Hid (db q=D++lG q.locals (q.blocks.drop 0)):=by
    unfold Hid;rw[HD.out,List.drop_length];rfl
   have q1:=(hD.bz.cell (p:=⟨a,1,none⟩) halt).trans p1;clear HD;go_wp2
   go_loopg [3,41] (q.blocks.length) (fun g v3 v41 wr=>∃(j:Nat) (D:List B),j<=q.blocks.length/\g+j=q.blocks.length/\v41=.int .i64 j/\vA w wr v3 D/\Hid (db q=D++lG q.locals (q.blocks.drop j)))
   case atStart=>exact⟨0,D,jQ _,rfl,rfl,hD,Vb⟩
   case round=>
    clear Vb hD PU q1;obtain⟨j,D2,hj,SN,rfl,hD,HD⟩:=hrel;have PU:D2.length<=4000:=by have:=congrArg List.length HD.out;rw[jV]at this;omega
    by_cases hltj:j<q.blocks.length
    ·obtain⟨gb',cb',adk,ck,vy,-,-,aQ,DW⟩:=et h j hltj;cases vy
     have HB:Hid (cH z w (.slice adk (q.blocks.getD j []).length ck) (q.blocks.getD j []) (vss.getD j [])):=by
      have h1:=h.each j hltj;rw[DW]at h1;exact h1
     have kF:q.blocks.getD j []∈q.blocks:=by rw[jA,jB hltj];exact jL hltj
     have HL:Hid (∀l∈q.blocks.getD j [],Told q.locals q.blocks.length l):=fun l hl=>(ok.line kF hl).told
     have za:q.blocks.drop j=q.blocks.getD j []::q.blocks.drop (j+1):=by
      rw[jE hltj,jA,jB hltj];rfl
     have HN:Hid (db q=(D2++[bX])++(((q.blocks.getD j []).drop 0).map (lj q.locals)++lG q.locals (q.blocks.drop (j+1)))):=by
      unfold Hid;rw[HD.out,za];simp[lG]
     have q1:=(hD.bz.cell (p:=⟨gb,j,none⟩) sX).trans aQ;have Q2:(j:Int)<q.blocks.length:=by omega
     have DX:=qF (E.on hD.bz) 1 (by decide);have py:=hD.bz.size;have HO:Hid (bD 1=bX):=rfl;have mO:(q.blocks.getD j []).length<=4000:=by
      have:=congrArg List.length HN.out;simp only[List.length_append,List.length_map,List.length_drop]at this;omega
     simp only[Nat.one_mul]at DX;clear za HD aQ DW kF;generalize q.blocks.getD j []=aD at*;generalize vss.getD j []=vsj at*;generalize bD 1=ow at*;go_wp2_with (at_builtin;go_must (refine eU rfl _ _ 34 rfl w.heap.size 9 i (.string ⟨#[]⟩) 16 Tryz.underlying34 hi yw oY oZ rfl _ _ _ rfl hD.row _ rfl rfl (by decide) (by omega) py ?_);intro g2 c2' w2 hown2 hgrow2 hat2 sZ)
     have Tr:=hD.push rfl hown2 hgrow2;rw[HO.out]at Tr;clear hD hown2 hgrow2 hat2 sZ q1 DX py PU;go_loopg [3,53] (aD.length) (fun g v3 v53 wr=>∃(k:Nat) (D:List B),k<=aD.length/\g+k=aD.length/\v53=.int .i64 k/\vA w wr v3 D/\Hid (db q=D++((aD.drop k).map (lj q.locals)++lG q.locals (q.blocks.drop (j+1)))))
     case atStart=>exact⟨0,_,jQ _,rfl,rfl,Tr,HN⟩
     case round=>
      clear HN Tr;obtain⟨k,D3,hk,yp,rfl,hD,HD⟩:=hrel;have PU:D3.length<=4000:=by have:=congrArg List.length HD.out;rw[jV]at this;omega
      by_cases hltk:k<aD.length
      ·obtain⟨gk,apl,cp,an,cn,rfl,-,NL,EU,k0,k1,k2,k3,k4,k5,Cd⟩:=iI HB.out k hltk;have Ia:aD.getD k ab.nil∈aD:=by rw[jA,jB hltk];exact jL hltk
       have hl:=HL.out _ Ia;have za:aD.drop k=aD.getD k ab.nil::aD.drop (k+1):=by
        rw[jE hltk,jA,jB hltk];rfl
       have HN:Hid (db q=(D3++[lj q.locals (aD.getD k ab.nil)])++((aD.drop (k+1)).map (lj q.locals)++lG q.locals (q.blocks.drop (j+1)))):=by
        unfold Hid;rw[HD.out,za,List.map_cons,List.append_assoc];rfl
       have c0:=(hD.bz.cell (p:=⟨gk,k*6,none⟩) EU).trans k0;have c1:=(hD.bz.cell (p:=⟨gk,k*6+1,none⟩) EU).trans k1;have c2:=(hD.bz.cell (p:=⟨gk,k*6+2,none⟩) EU).trans k2;have c3:=(hD.bz.cell (p:=⟨gk,k*6+3,none⟩) EU).trans k3;have c4:=(hD.bz.cell (p:=⟨gk,k*6+4,none⟩) EU).trans k4;have c5:=(hD.bz.cell (p:=⟨gk,k*6+5,none⟩) EU).trans k5;clear k0 k1 k2 k3 k4 k5 za HD Ia;have EX:(k:Int)<aD.length:=by omega
       generalize aD.getD k ab.nil=l at*;have ko:Below wr.heap.size wr (wr.alloc (.cells #[.int .i64 (l.num:Nat),.int .i64 (l.op:Nat),.slice apl l.places.length cp,.int .i64 l.number,.int .i64 l.flag,.slice an l.next.length cn] 115)):=(Below.refl _ _).alloc (jC _) _;have vw:(wr.alloc (.cells #[.int .i64 (l.num:Nat),.int .i64 (l.op:Nat),.slice apl l.places.length cp,.int .i64 l.number,.int .i64 l.flag,.slice an l.next.length cn] 115)).heap[wr.heap.size]?=some (.cells #[.int .i64 (l.num:Nat),.int .i64 (l.op:Nat),.slice apl l.places.length cp,.int .i64 l.number,.int .i64 l.flag,.slice an l.next.length cn] 115 (0,0)):=jD;go_upto_region 14 with fail
       generalize (wr.alloc (.cells #[.int .i64 (l.num:Nat),.int .i64 (l.op:Nat),.slice apl l.places.length cp,.int .i64 l.number,.int .i64 l.flag,.slice an l.next.length cn] 115))=WL at*;have GK:=hD.on ko;have l0:=(cell_of_heap vw 0).trans (by rfl:_=some (Value.int .i64 (l.num:Nat)));have l1:=(cell_of_heap vw 1).trans (by rfl:_=some (Value.int .i64 (l.op:Nat)));have l2:=(cell_of_heap vw 2).trans (by rfl:_=some (Value.slice apl l.places.length cp));have l3:=(cell_of_heap vw 3).trans (by rfl:_=some (Value.int .i64 l.number));have l4:=(cell_of_heap vw 4).trans (by rfl:_=some (Value.int .i64 l.flag));have l5:=(cell_of_heap vw 5).trans (by rfl:_=some (Value.slice an l.next.length cn));have EO:=h.below GK.bz;have KT:=Dg q l q.blocks.length z a _ _ apl an cp cn WL EO.aD ⟨z,EO.locals⟩ oE ok.names hl (by have:=ok.jt;omega) (Cd.below GK.bz) (E.on GK.bz) (hS.below GK.bz E.size) (hP.below GK.bz E.size);clear hD ko c0 c1 c2 c3 c4 c5 EO;go_wp2_with (first
        |(go_at_call 82;refine KT.mono ?_;rintro e w1 ⟨rfl,iD⟩;have Tq:=GK.on iD;have py:=Tq.bz.size)
        |(at_builtin;go_must (refine eU rfl _ _ 34 rfl w.heap.size 9 i (.string ⟨#[]⟩) 16 Tryz.underlying34 hi yw oY oZ rfl _ _ _ rfl Tq.row _ rfl rfl (by decide) (by omega) py ?_);intro g2 c2' w2 hown2 hgrow2 hat2 sZ))
       go_roundg (aD.length-(k+1))
       case measure=>omega
       case rel=>exact⟨k+1,_,by omega,by omega,by go_num,Tq.push rfl hown2 hgrow2,HN⟩
      ·have la:k=aD.length:=by omega
       subst la;have HN:Hid (db q=D3++lG q.locals (q.blocks.drop (j+1))):=by
        unfold Hid;rw[HD.out,List.drop_length];rfl
       go_wp2
       go_roundg (q.blocks.length-(j+1))
       case measure=>omega
       case rel=>exact⟨j+1,D3,by omega,by omega,by go_num,hD,HN⟩
    ·have rI:j=q.blocks.length:=by omega
     subst rI;have HE:Hid (db q=D2):=by
      unfold Hid;rw[HD.out,List.drop_length];simp[lG]
     have KJ:=CB hD PU (fun b hb=>HS.out b (by rw[HE.out];exact hb));go_wp2_with (go_at_call 83;refine KJ.mono ?_;rintro e w1 ⟨rfl,iD⟩)
     go_ret
     exact⟨by unfold re;rw[HE.out];rfl,hD.bz.trans (iD.mono hD.bz.size)⟩
end
end El
namespace FlwZa
open Go Go.RowKit Sq Aux PrjF PrjG PrjJ PrjK PrjM PrjW PrjX RefM FlwP FlwQ FlwV FlwY FlwZ
set_option maxRecDepth 20000 in
theorem kM (text:B)(w:World)(h:text.length<=1048576)(E:Env w):Calls Tryz.prog 38 #[.string (bs text)] w (gN text w):=by
 have Ta:=Gd text w h E;go_enter Tryz.func38,Tryz.ntmps38
 cases hr:ax text false with
 |mk op ck=>
  obtain⟨c,k⟩:=ck;cases op with
  |none=>
   obtain⟨rX,vq⟩:=Bd hr;have ym:((c:Int)==0)=false:=by simp;omega
   have HR:Hid (_=_):=hr;have gz:Hid (_=_):=vq;go_wp2_with (go_at_call 53;refine Ta.mono ?_;rintro e w1 ⟨aB,v,rfl,hv⟩;rw[HR.out]at hv;obtain⟨-,rfl⟩:True/\v=.pointer none:=(by rcases hv with⟨-,hv⟩|⟨p,a,z,hp,-⟩;exact⟨trivial,hv⟩;cases hp);have DX:Hid (Below w.heap.size w w1):=aB;simp only[HR.out])
   go_ret3
   exact⟨DX.out,.inl ⟨c,k,rX,gz.out,rfl⟩⟩
  |some q=>
   obtain⟨rfl,rfl,p,hp,hB⟩:=pQ hr;have HR:Hid (_=_):=hr;have HP:Hid (_=_):=hp;have HB:Hid (_):=hB;clear hr hp hB;go_upto_region 4 with(go_at_call 53;refine Ta.mono ?_;rintro e w1 ⟨aB,v,rfl,hv⟩;rw[HR.out]at hv;obtain⟨a,z,rfl,hz,hG⟩:∃a z,v=.pointer (some ⟨a,0,none⟩)/\Hid (w.heap.size<=z)/\Hid (xY z a w1 q):=(by rcases hv with⟨hv,-⟩|⟨q',a,z,hq,hv,hz,hg⟩;(cases hv);(cases hq;exact⟨a,z,hv,hz,hg⟩));have DX:Hid (Below w.heap.size w w1):=aB;clear hv aB;simp only[HR.out])
   have HF:=Hn HB.out hG.out;go_upto_region 5 with(go_at_call 54;refine HF.mono ?_;rintro e w2 ⟨⟨E',hD,rfl⟩,bu⟩;have HD:Hid (_):=hD;have UZ:Hid (_):=bu;clear hD bu;rw[pa];obtain⟨r,hr⟩:∃r,Hid (aG (bK q E') q.blocks.length 0=r):=⟨_,rfl⟩;rw[hr.out])
   clear HF Ta;have HW:Hid (Below w.heap.size w w2):=DX.out.trans (UZ.out.mono DX.out.size);cases r with
   |none=>
    simp only[Option.isSome_none];go_wp2
    go_ret3
    exact⟨HW.out,.inr ⟨p,q,E',HP.out,HR.out,HD.out,.inr ⟨hr.out,a,z,rfl,hz.out,EM hG.out UZ.out⟩⟩⟩
   |some n=>
    simp only[Option.isSome_some,Option.getD_some];go_wp2
    go_ret3
    exact⟨HW.out,.inr ⟨p,q,E',HP.out,HR.out,HD.out,.inl ⟨n,hr.out,rfl⟩⟩⟩
set_option maxRecDepth 20000 in
theorem En (text:B)(w:World)(h:text.length<=1048576)(E:Env w):Calls Tryz.prog 21 #[.string (bs text)] w fun e w'=>(∃c k,Hid (fG text c k)/\e=.returned (.tuple #[.int .i64 c,.int .i64 k]))/\Below w.heap.size w w':=by
 have K:=(kM text w h E).mono (R':=fun e w'=>∃v c k,e=.returned (.tuple #[v,.int .i64 c,.int .i64 k])/\Hid (fG text c k)/\Below w.heap.size w w') fun e w' hp=>by
  obtain⟨hb,v,c,k,rfl,ha⟩:=hp.dv;exact⟨v,c,k,rfl,ha,hb⟩
 go_enter Tryz.func21,Tryz.ntmps21
 go_wp2_with (go_at_call 38;refine K.mono ?_;rintro e w1 ⟨v,c,k,rfl,ha,hb⟩)
 go_ret2
 exact⟨⟨c,k,ha,rfl⟩,hb⟩
def pK:B:=[108,101,116,32,110,32,105,110,116,10,108,101,116,32,112,32,98,111,120,10,98,108,111,99,107,10,115,101,116,32,110,32,53,10,110,101,119,32,112,32,110,10,108,111,97,100,32,110,32,112,10,101,110,100,32,110]
end FlwZa
namespace El
open Go Go.RowKit Sq Aux Go.Proofs.YtmlgajhhnojdjaaGreatDoor.Own RunA RunB PrjF PrjG PrjJ PrjK PrjM PrjS PrjW PrjX RefM FlwP FlwQ FlwV FlwY FlwZ FlwZa
theorem By (q:QP):∀n,n<=q.blocks.length->kh q n=(q.blocks.take n).flatten.length
 |0,_=>by simp[kh]
 |n+1,h=>by rw[kh,xW q (by omega),By q n (by omega)]
theorem M3 {text:B}{p:RP}{q:QP}(hB:vz text false p q)(hrd:ax text false=(some q,0,0)):Nb q:=by
 have hS:=oT hrd;have hN:=tQ hrd;refine⟨hN.CE,Jw hB.LZ,hS.whole,fun b l hl=> ?_⟩;obtain⟨k1,k2,k3⟩:=hN.told.lines _ (eW hl) l hl;exact⟨hB.LZ.lines _ (eW hl) l hl,hS.has b l hl,hS.fits b l hl,k1,k2,k3⟩
theorem tM {text:B}{p:RP}{q:QP}{E:List (List Nat)}(hD:kq text p q E)(hrd:ax text false=(some q,0,0)):gD (lv q E):=by
 have hN:=tQ hrd;have hq:=M3 hD.both hrd;obtain⟨h1,h2⟩:=OA hq E (fun b hb=>(hD.ok hb).len);have h3:=L1 q E;have h4:=hN.sum;have h5:=hN.CE;have h6:=hN.BF;have h7:=hN.b1;have h8:(10*q.locals.length)*q.blocks.length<=120*q.blocks.length:=Nat.mul_le_mul_right _ (by omega);exact⟨hN.told.names,hD.both.LZ.types,hN.told.nodup,hN.l1,hN.CE,by omega,by show q.locals.length+_+_<=4000;omega,h1⟩
def GU (text:B)(v:B)(c k:Int):Prop:=fG text c k/\((¬c=0/\v=[])\/
 c=0/\k=0/\∃p q E,bP text false=(some p,0,0)/\ax text false=(some q,0,0)/\kq text p q E/\aG (bK q E) q.blocks.length 0=none/\v=re (lv q E))
set_option maxRecDepth 20000 in
theorem vC (text:B)(w:World)(h:text.length<=1048576)(E:Env w)(hS:ks w)(hP:Pow w):Calls Tryz.prog 32 #[.string (bs text)] w fun e w'=>(∃v c k,Hid (GU text v c k)/\e=.returned (.tuple #[.string (bs v),.int .i64 c,.int .i64 k]))/\Below w.heap.size w w':=by
 have K:=(kM text w h E).mono (R':=fun e w'=>∃v c k,e=.returned (.tuple #[v,.int .i64 c,.int .i64 k])/\Hid (fG text c k)/\Below w.heap.size w w'/\Hid (c=0->∃p q E a z,bP text false=(some p,0,0)/\ax text false=(some q,0,0)/\kq text p q E/\aG (bK q E) q.blocks.length 0=none/\k=0/\v=.pointer (some ⟨a,0,none⟩)/\xY z a w' q)) fun e w' hp=>by
  obtain⟨hb,v,c,k,rfl,ha⟩:=hp.dv;refine⟨v,c,k,rfl,ha,hb,fun hc=> ?_⟩;obtain⟨-,h|⟨p,q,E,h1,hq,h2,⟨n,h3,he⟩|⟨h3,a,z,he,hz,hG⟩⟩⟩:=hp
  ·obtain⟨c',k',h0,h1,he⟩:=h;simp only[Ending.returned.injEq,Value.tuple.injEq,Array.mk.injEq,List.cons.injEq,Value.int.injEq,true_and,and_true]at he;omega
  ·simp only[Ending.returned.injEq,Value.tuple.injEq,Array.mk.injEq,List.cons.injEq,Value.int.injEq,true_and,and_true]at he;omega
  ·simp only[Ending.returned.injEq,Value.tuple.injEq,Array.mk.injEq,List.cons.injEq,Value.int.injEq,true_and,and_true]at he;exact⟨p,q,E,a,z,h1,hq,h2,h3,he.2.2,he.1,hG⟩
 go_enter Tryz.func32,Tryz.ntmps32
 go_upto_region 2 with(go_at_call 38;refine K.mono ?_;rintro e w1 ⟨v,c,k,rfl,HA,aB,HC⟩)
 clear K;by_cases hc:c=0
 ·subst hc;obtain⟨p,q,E1,a,z,g1,g2,g3,g4,rfl,rfl,hG⟩:=HC.out rfl;obtain⟨vl,vb,us,vss,hp⟩:=hG.at_;have hN:=tQ g2;have KR:=L0 hp hN.b1 hG.blocks hN.l1 hN.CE g3.both.LZ hG.lines (by rw[By q _ (jC _),List.take_length];have:=hN.sum;omega) (zd q) (ta q hN.b1) (fun E O b _ _ hb hO hI=>xD q g3.both.LZ hN.CE E O b hb hO hI);have HG:Hid (∀E',zd q E' (fun _=>false)->GU text (re (lv q E')) 0 0/\gD (lv q E')):=fun E' hI=>by
   have hD:kq text p q E':=⟨g3.both,hI,hN.b1⟩;refine⟨⟨HA.out,.inr ⟨rfl,rfl,p,q,E',g1,g2,hD,?_,rfl⟩⟩,tM hD g2⟩;cases hf:aG (bK q E') q.blocks.length 0 with
   |none=>rfl
   |some n=>
    have:=(Ke HA.out (.inr ⟨p,q,E',g1,g2,hD,.inl ⟨n,hf,rfl,rfl⟩⟩)).1;omega
  clear HA HC g1 g2 g3 g4 hG hN;go_wp2_with (first
   |(go_at_call 50;refine KR.mono ?_;rintro e w2 ⟨a',vb',us',vss',E2,rfl,MH,-,-,Cc,bu⟩;obtain⟨Xp,jk⟩:=HG.out E2 Cc;have dp:=aB.trans (bu.mono aB.size);have KT:=Jt MH jk (E.on dp) (hS.below dp E.size) (hP.below dp E.size))
   |(go_at_call 51;refine KT.mono ?_;rintro e w3 ⟨rfl,dR⟩))
  go_ret3
  exact⟨⟨_,_,_,Xp,rfl⟩,dp.trans (dR.mono dp.size)⟩
 ·have ym:(c==0)=false:=by simp[hc]
  have HN:Hid (¬c=0):=hc;clear hc HC;go_wp2
  go_ret3
  exact⟨⟨[],c,k,⟨HA.out,.inl ⟨HN.out,rfl⟩⟩,rfl⟩,aB⟩
end El
end Go.Proofs.YtmlgajhhnojdjaaGreatDoor

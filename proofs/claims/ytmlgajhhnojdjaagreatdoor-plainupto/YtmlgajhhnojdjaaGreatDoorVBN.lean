import Derived.Test.YtmlgajhhnojdjaaGreatDoorVBM
namespace Go.Proofs.YtmlgajhhnojdjaaGreatDoor
namespace El
open Go Go.RowKit Sq Aux Go.Proofs.YtmlgajhhnojdjaaGreatDoor.Own RefRa PrjF PrjG PrjJ PrjK PrjL PrjM PrjO PrjP PrjS PrjT FlwA FlwB FlwE
structure zf (ls:List (B×Nat))(l:ab)(w wr:World)(k:Nat)(vp vn v5 v6 v7:Value)(W:List B)(ps:List (Nat×Nat))(nx:List Nat):Prop where
 row:wr.ownsRow w.heap.size 9 1 v5 W.length (cellsOf W)
 pl:J7 w.heap.size wr v6 ps
 Pz:JJ w.heap.size wr v7 nx
 same:kJ ls l=W++bN ls l.number l.flag ((ae l.op).drop k) ps nx
 cP:ps.length=(((ae l.op).drop k).filter eg).length
 pI:nx.length=(((ae l.op).drop k).filter (·==98)).length
 UW:∀x∈ps,x.1<ls.length/\x.2<=3
 UU:∀n∈nx,n<=1000000
 bz:Below w.heap.size w wr
 ln:dX wr w.heap.size l vp vn
 bytes:∃cs fr,wr.heap[w.heap.size+2]?=some (.cells cs 5 fr)/\∀j (h:j<(ae l.op).length),cs[j]?=some (.int .u8 ((ae l.op)[j].toNat:Nat))
 jt:W.length<=k+1
section
variable {ls:List (B×Nat)} {l:ab} {w wr w1 w3:World} {k:Nat} {vp vn v5 v6 v7 v' v6' v7':Value} {W:List B} {ps ps':List (Nat×Nat)} {nx nx':List Nat}
theorem zf.on (h:zf ls l w wr k vp vn v5 v6 v7 W ps nx)(hb:Below wr.heap.size wr w1):zf ls l w w1 k vp vn v5 v6 v7 W ps nx:=by
 have Hz:=hb.mono h.bz.size;obtain⟨cs,fr,h1,h2⟩:=h.bytes;exact⟨al h.row hb,h.pl.below Hz,h.Pz.below Hz,h.same,h.cP,h.pI,h.UW,h.UU,h.bz.trans Hz,h.ln.below hb (lt_of_heap h.ln),⟨cs,fr,(hb.block _ (lt_of_heap h1)).trans h1,h2⟩,h.jt⟩
theorem zf.push (h:zf ls l w wr k vp vn v5 v6 v7 W ps nx){o:Obj}{b:B}{n:Nat}(hn:n=W.length+1)(eG:w3.ownsRow w.heap.size 9 1 v' n (cellsOf W++[.string (bs b)]))(hg:(wr.alloc o).grownBy w3 v5.ownBlock)
  (dL:J7 w.heap.size wr v6' ps') (jw:JJ w.heap.size wr v7' nx') (hs:bN ls l.number l.flag ((ae l.op).drop k) ps nx=b::bN ls l.number l.flag ((ae l.op).drop (k+1)) ps' nx')
  (h1:ps'.length=(((ae l.op).drop (k+1)).filter eg).length) (h2:nx'.length=(((ae l.op).drop (k+1)).filter (·==98)).length) (h3:∀x∈ps',x∈ps) (h4:∀x∈nx',x∈nx):zf ls l w w3 (k+1) vp vn v' v6' v7' (W++[b]) ps' nx':=by
 have aO:Below wr.heap.size wr (wr.alloc o):=(Below.refl _ _).alloc (jC _) _;have MG:=al h.row aO;have hB:=cq h.bz (jC _) h.bz.size h.row hg;have yl:Below w.heap.size wr w3:=cq (Below.refl _ _) (jC _) h.bz.size h.row hg;have hA:=h.on aO;obtain⟨cs,fr,g1,g2⟩:=hA.bytes;have vr:(wr.alloc o).heap[w.heap.size]?=_:=hA.ln;refine⟨?_,dL.below yl,jw.below yl,by rw[h.same,hs,List.append_assoc];rfl,h1,h2,fun x hx=>h.UW x (h3 x hx),fun x hx=>h.UU x (h4 x hx),hB,?_,⟨cs,fr,?_,g2⟩,by rw[jV];have:=h.jt;simp;omega⟩
 ·subst hn;have e:cellsOf (W++[b])=cellsOf W++[.string (bs b)]:=by simp[cellsOf]
  rw[e,jV];exact eG
 ·show w3.heap[w.heap.size]?=_
  rw[hg.block _ (lt_of_heap vr) (aF MG vr (by decide))];exact vr
 ·rw[hg.block _ (lt_of_heap g1) (aF MG g1 (by decide))];exact g1
end
theorem L7 {w:World}{z g:Nat}{b:B}(hz:z<=g)(hb:w.heap[g]?=some (.cells #[.string (bs b)] 9 (0,0))):w.ownsRow z 9 1 (.slice (some ⟨g,0,none⟩) 1 1) 1 (cellsOf [b]):=by
 refine⟨rfl,.inr ⟨g,1,#[.string (bs b)],rfl,hz,hb,jC _,by unfold maxLen;omega,rfl,rfl⟩⟩
theorem oC {w w1:World}(h:∃k os,w1=Go.Sort.grow (w.drewN k) os):Below w.heap.size w w1:=by
 obtain⟨k,os,rfl⟩:=h;exact sn k os w
set_option maxRecDepth 20000 in
set_option maxHeartbeats 4000000 in
theorem Dg (q:QP)(l:ab)(nb z a:Nat)(v u:Value)(ap an:Option Addr)(cp cn:Nat)(w:World)(hp:w.heap[a]?=some (.cells #[v,u] 110 (0,0)))(hv:eT w v q.locals)(_h12:q.locals.length<=12)(vK:∀x∈q.locals,isName x.1=true)
  (hl:Told q.locals nb l) (Lg:nb<=1000000) (hA:aE z w l (.slice ap l.places.length cp) (.slice an l.next.length cn)) (E:Env w) (hS:ks w) (hP:Pow w):
  Calls Tryz.prog 82 #[.pointer (some ⟨a,0,none⟩),.agg #[.int .i64 (l.num:Nat),.int .i64 (l.op:Nat),.slice ap l.places.length cp,.int .i64 l.number,.int .i64 l.flag,.slice an l.next.length cn]] w fun e w'=>e=.returned (.string (bs (lj q.locals l)))/\Below w.heap.size w w':=by
 obtain⟨i,hi,yw,oY,oZ⟩:=info_parts s8;have N1:=hl.ok.op;have J0:(ae l.op).length<=3:=xX ⟨l.op,N1⟩;obtain⟨A1,DM⟩:∃A1,w.alloc (.cells #[.int .i64 (l.num:Nat),.int .i64 (l.op:Nat),.slice ap l.places.length cp,.int .i64 l.number,.int .i64 l.flag,.slice an l.next.length cn] 115)=A1:=⟨_,rfl⟩;have aO:Below w.heap.size w A1:=by rw[<-DM];exact(Below.refl _ _).alloc (jC _) _
 have s1:A1.heap.size=w.heap.size+1:=by rw[<-DM];simp
 have JY:dX A1 w.heap.size l (.slice ap l.places.length cp) (.slice an l.next.length cn):=by rw[<-DM];exact jD
 obtain⟨-,l1,l2,l3,l4,l5,-⟩:=JY.facts;have rJ:=qF (E.on aO) l.op N1;go_enter Tryz.func82,Tryz.ntmps82
 obtain⟨A2,sQ⟩:∃A2,A1.alloc (.cells #[.string (bs (bD l.op))] 9)=A2:=⟨_,rfl⟩;have bu:Below A1.heap.size A1 A2:=by rw[<-sQ];exact(Below.refl _ _).alloc (jC _) _
 have E0:=JY.below bu (by omega);have MK:A2.ownsRow w.heap.size 9 1 (.slice (some ⟨w.heap.size+1,0,none⟩) 1 1) 1 (cellsOf [bD l.op]):=L7 (by omega) (by rw[<-sQ,<-s1];exact jD);have s2:A2.heap.size=w.heap.size+2:=by rw[<-sQ];simp[s1]
 obtain⟨-,m1,m2,m3,m4,m5,-⟩:=E0.facts;go_upto_region 2 with fail
 go_region
 have XT:=Lib.run_convert_string_bytes (P:=Tryz.prog) A2.drew 9 93 5 (bs (ae l.op)) (u:=.string) Tryz.underlying9 Tryz.underlying93 Tryz.underlying5;obtain⟨A3,Hw⟩:∃A3,Lib.bytesWorld A2.drew 5 (bs (ae l.op))=A3:=⟨_,rfl⟩;obtain⟨cb,ym⟩:∃cb,grownCap A2.drew (bs (ae l.op)).size 0 5=cb:=⟨_,rfl⟩;have dR:Below A2.heap.size A2 A3:=by
  refine⟨by rw[<-Hw];rfl,by rw[<-Hw];rfl,by rw[<-Hw];rfl,by rw[<-Hw,Lib.bytesWorld_size];show A2.heap.size<=A2.heap.size+1;omega,fun k hk=> ?_⟩;rw[<-Hw];exact Lib.bytesWorld_at_old A2.drew _ _ _ hk
 have TR:∃cs fr,A3.heap[w.heap.size+2]?=some (.cells cs 5 fr)/\∀j (h:j<(ae l.op).length),cs[j]?=some (.int .u8 ((ae l.op)[j].toNat:Nat)):=by
  have hn:=Lib.bytesWorld_at_new A2.drew 5 (bs (ae l.op));rw[Hw]at hn;have e:A2.drew.heap.size=w.heap.size+2:=s2;rw[e]at hn;refine⟨_,_,hn,fun j hj=> ?_⟩;unfold Lib.bytesCells;rw[Array.getElem?_append_left (by simp[bs];exact hj)];simp[bs,hj]
 have iA:zf q.locals l w A3 0 (.slice ap l.places.length cp) (.slice an l.next.length cn) (.slice (some ⟨w.heap.size+1,0,none⟩) 1 1) (.slice ap l.places.length cp) (.slice an l.next.length cn) [bD l.op] l.places l.next:=by
  have hB:Below w.heap.size w A3:=(aO.trans (bu.mono (by omega))).trans (dR.mono (by omega));obtain⟨k1,k2⟩:=FZ hA;refine⟨al MK dR,k1.below hB,k2.below hB,rfl,hl.ok.cP,hl.ok.pI,hl.ok.places,fun n hn=>by have:=hl.ok.next n hn;omega,hB,E0.below dR (by omega),TR,by simp⟩
 have gP:(bs (ae l.op)).size=(ae l.op).length:=cu _;have E3:=E.on iA.bz;clear JY E0 MK bu dR l1 l2 l3 l4 l5 rJ;have RA:=iu (E.on (aO.trans (((Below.refl _ _).alloc (jC _) (.cells #[.string (bs (bD l.op))] 9)).mono (by omega)))) l.op N1;rw[sQ]at RA;go_wp2
 go_loopw [5,6,7,27] (fun v5 v6 v7 i wr=>∃(k:Nat) (W:List B) (ps:List (Nat×Nat)) (nx:List Nat),k<=(ae l.op).length/\i=.int .i64 k/\zf q.locals l w wr k (.slice ap l.places.length cp) (.slice an l.next.length cn) v5 v6 v7 W ps nx) (fun _ _ _ i _=>(ae l.op).length-(intOf i).toNat)
 case atStart=>exact⟨0,_,_,_,jQ _,rfl,iA⟩
 case round=>
  clear iA E3 RA XT Hw sQ DM aO s1 s2 m1 m2 m3 m4 m5;obtain⟨k,W,ps,nx,hk,rfl,H⟩:=hrel;obtain⟨-,l1,l2,l3,l4,l5,-⟩:=H.ln.facts;obtain⟨cs,fr,mO,ES⟩:=H.bytes;have E1:=E.on H.bz;have UP:=sa vK (jS Lg (by decide)) hl;by_cases aP:k<(ae l.op).length
  ·have NL:wr.cell? ⟨w.heap.size+2,k,none⟩=some (.int .u8 ((ae l.op)[k].toNat:Nat)):=by rw[cell_of_heap mO];exact ES k aP
   have za:(ae l.op).drop k=(ae l.op)[k]::(ae l.op).drop (k+1):=jE aP;have HW:Hid (_):=H.same;have h1:=H.cP;have h2:=H.pI;rw[za,List.filter_cons]at h1 h2;have eC:∀n:Nat,n<256->((((ae l.op)[k].toNat:Int)==(n:Int))=true↔(ae l.op)[k]=UInt8.ofNat n):=fun n hn=>by
    rw[rj (ae l.op)[k] n hn,beq_iff_eq];omega
   have e1:=eC 35 (by omega);have e2:=eC 118 (by omega);have e3:=eC 102 (by omega);have e4:=eC 98 (by omega);simp only[Int.cast_ofNat_Int]at e1 e2 e3 e4;clear eC;by_cases c1:(((ae l.op)[k].toNat:Int)==35)=true\/(((ae l.op)[k].toNat:Int)==118)=true
   ·have c1':=PrjI.CY c1;have cc:(ae l.op)[k]=35\/(ae l.op)[k]=118:=c1.imp e1.1 e2.1;have dL:eg (ae l.op)[k]=false:=by rcases cc with h|h<;>rw[h]<;>rfl
    have vj:((ae l.op)[k]==98)=false:=by rcases cc with h|h<;>rw[h]<;>rfl
    have HG:Hid (bN q.locals l.number l.flag ((ae l.op).drop k) ps nx=Lib.itoa l.number::bN q.locals l.number l.flag ((ae l.op).drop (k+1)) ps nx):=by
     unfold Hid;rw[za,bN,jb cc,ph]
    rw[ja (by rw[dL];decide)]at h1;rw[ja (by rw[vj];decide)]at h2;have KF:=Tryz.strconv_FormatInt_10 l.number (by have:=hl.ok.number.1;omega) (by have:=hl.ok.number.2;omega) wr (hP.below H.bz E.size);clear e1 e2 e3 e4 c1 cc dL vj za HW;rcases c1' with b1|⟨b1,b2⟩
    all_goals
     go_wp2_with (first
      |(go_at_call 133;refine KF.mono ?_;rintro e w1 ⟨rfl,BM⟩;have H1:=H.on (oC BM);clear BM;have py:=H1.bz.size;have rG:=H1.jt)
      |(at_builtin;go_must (refine eU rfl _ _ 34 rfl w.heap.size 9 i (.string ⟨#[]⟩) 16 Tryz.underlying34 hi yw oY oZ rfl _ _ _ rfl H1.row _ rfl rfl (by decide) (by omega) py ?_);intro g2 c2' w2 hown2 hgrow2 hat2 sZ))
     go_roundw
     case rel=>exact⟨k+1,_,ps,nx,by omega,by go_num,H1.push rfl hown2 hgrow2 H1.pl H1.Pz HG.out h1 h2 (fun _ h=>h) (fun _ h=>h)⟩
     case measure=>simp[intOf];omega
   ·have d1:=c1;simp only[not_or,Bool.not_eq_true]at c1;obtain⟨b1,b2⟩:=c1;have cc:¬((ae l.op)[k]=35\/(ae l.op)[k]=118):=fun h=>d1 (h.imp e1.2 e2.2)
    clear d1;by_cases c2:(((ae l.op)[k].toNat:Int)==102)=true
    ·have c3:(ae l.op)[k]=102:=e3.1 c2;have dL:eg (ae l.op)[k]=false:=by rw[c3];rfl
     have vj:((ae l.op)[k]==98)=false:=by rw[c3];rfl
     have HG:Hid (bN q.locals l.number l.flag ((ae l.op).drop k) ps nx=Lib.itoa l.flag::bN q.locals l.number l.flag ((ae l.op).drop (k+1)) ps nx):=by
      unfold Hid;rw[za,bN,ja cc,jb c3,ph]
     rw[ja (by rw[dL];decide)]at h1;rw[ja (by rw[vj];decide)]at h2;have KF:=Tryz.strconv_Itoa l.flag (by have:=hl.ok.flag.1;omega) (by have:=hl.ok.flag.2;omega) wr (hP.below H.bz E.size);clear e1 e2 e3 e4 c3 cc dL vj za HW;go_wp2_with (first
      |(go_at_call 134;refine KF.mono ?_;rintro e w1 ⟨rfl,BM⟩;have H1:=H.on (oC BM);clear BM;have py:=H1.bz.size;have rG:=H1.jt)
      |(at_builtin;go_must (refine eU rfl _ _ 34 rfl w.heap.size 9 i (.string ⟨#[]⟩) 16 Tryz.underlying34 hi yw oY oZ rfl _ _ _ rfl H1.row _ rfl rfl (by decide) (by omega) py ?_);intro g2 c2' w2 hown2 hgrow2 hat2 sZ))
     go_roundw
     case rel=>exact⟨k+1,_,ps,nx,by omega,by go_num,H1.push rfl hown2 hgrow2 H1.pl H1.Pz HG.out h1 h2 (fun _ h=>h) (fun _ h=>h)⟩
     case measure=>simp[intOf];omega
    ·have d2:¬(ae l.op)[k]=102:=fun h=>c2 (e3.2 h)
     rw[Bool.not_eq_true]at c2;by_cases c3:(((ae l.op)[k].toNat:Int)==98)=true
     ·have d3:(ae l.op)[k]=98:=e4.1 c3;have dL:eg (ae l.op)[k]=false:=by rw[d3];rfl
      rw[ja (by rw[dL];decide)]at h1;rw[jb (by rw[d3];rfl)]at h2;cases nx with
      |nil=>simp at h2
      |cons n nx=>
       have HG:Hid (bN q.locals l.number l.flag ((ae l.op).drop k) ps (n::nx)=Lib.itoa (n:Int)::bN q.locals l.number l.flag ((ae l.op).drop (k+1)) ps nx):=by
        unfold Hid;rw[za,bN,ja cc,ja d2,jb d3,<-xq];rfl
       have EN:nx.length=(((ae l.op).drop (k+1)).filter (·==98)).length:=by simpa using h2
       obtain⟨gn,on,kn,rfl,VW,QY,Pb,V7⟩:=H.Pz.open;have E5:=H.UU n (jM ..);have KF:=Tryz.strconv_Itoa (n:Int) (by omega) (by omega) wr (hP.below H.bz E.size);have PI:Hid (_):=h1;have S9:Hid (_):=EN;clear h1 EN;clear e1 e2 e3 e4 d2 d3 cc dL za HW h2;go_wp2_with (first
        |(go_at_call 134;refine KF.mono ?_;rintro e w1 ⟨rfl,BM⟩;have H1:=H.on (oC BM);have Uw:=JJ.open H1.Pz;clear BM;have py:=H1.bz.size;have rG:=H1.jt)
        |(at_builtin;go_must (refine eU rfl _ _ 34 rfl w.heap.size 9 i (.string ⟨#[]⟩) 16 Tryz.underlying34 hi yw oY oZ rfl _ _ _ rfl H1.row _ rfl rfl (by decide) (by omega) py ?_);intro g2 c2' w2 hown2 hgrow2 hat2 sZ))
       go_roundw
       case rel=>
        obtain⟨gn',on',kn',en,-,-,-,Uv⟩:=Uw;cases en
        exact⟨k+1,_,ps,nx,by omega,by go_num,H1.push rfl hown2 hgrow2 H1.pl (Uv _ (by simp[sliced,Addr.add])) HG.out PI.out S9.out (fun _ h=>h) (fun _ h=>jN _ h)⟩
       case measure=>simp[intOf];omega
     ·have d3:¬(ae l.op)[k]=98:=fun h=>c3 (e4.2 h)
      rw[Bool.not_eq_true]at c3;rw[not_or]at cc;have dL:eg (ae l.op)[k]=true:=by simp[eg,cc.1,cc.2,d2,d3]
      have vj:((ae l.op)[k]==98)=false:=by rw[jZ];exact d3
      rw[jb dL]at h1;rw[ja (by rw[vj];decide)]at h2;cases ps with
      |nil=>simp at h1
      |cons x ps=>
       have HG:Hid (bN q.locals l.number l.flag ((ae l.op).drop k) (x::ps) nx=S0 q.locals x::bN q.locals l.number l.flag ((ae l.op).drop (k+1)) ps nx):=by
        unfold Hid;rw[za,bN,ja (by rw[not_or];exact cc),ja d2,ja d3];rfl
       have xz:ps.length=(((ae l.op).drop (k+1)).filter eg).length:=by simpa using h1
       obtain⟨gn,on,kn,rfl,VW,QY,Pb,TW,V7⟩:=H.pl.open;obtain⟨lf,Ip⟩:=H.UW x (jM ..);obtain⟨x1,x2⟩:=x;simp only at lf Ip Pb TW;have Wt:=hv.below H.bz;obtain⟨gl,cl,rfl,DS,rH,GN⟩:=(mE Wt).resolve_left (fun e=>by rw[e.1]at lf;simp at lf);obtain⟨X9,-⟩:=GN x1 lf;have Ld:=lt_of_heap hp;have vu:wr.heap[a]?=_:=(H.bz.block a Ld).trans hp;have Zq:wr.cell? ⟨a,0,none⟩=some (.slice (some ⟨gl,0,none⟩) q.locals.length cl):=by rw[cell_of_heap vu];rfl
       have Zv:=Jo (hS.below H.bz E.size) Ip;have iE:(q.locals.getD x1 ([],0)).1.length<=4:=by
        have:q.locals.getD x1 ([],0)∈q.locals:=by rw[jA,jB lf];exact jL lf
        exact(kL (vK _ this)).2
       have gO:=(xV x2).2;have HP:Hid (S0 q.locals (x1,x2)=(q.locals.getD x1 ([],0)).1++fU x2):=rfl;clear GN Wt hv vu;generalize (q.locals.getD x1 ([],0)).1=nm at*;have Yp:¬9223372036854775807<nm.length+(fU x2).length:=by omega
       have py:=H.bz.size;have rG:=H.jt;generalize fU x2=sx at*;have PI:Hid (_):=xz;have S9:Hid (_):=h2;have ZA:(x2:Int)<4:=by omega
       clear e1 e2 e3 e4 d2 d3 cc dL vj za HW h1 xz h2;go_upto_region 7 with fail
       go_region_law (refine xU (by rfl) _ _ _ (by rfl) w.heap.size 9 i (.string ⟨#[]⟩) 16 Tryz.underlying34 hi yw oY oZ (by rfl) _ _ _ (by rfl) (al H.row (show Below wr.heap.size wr wr.drew from⟨rfl,rfl,rfl,jC _,fun _ _=>rfl⟩)) _ (by rfl) (by rfl) (by decide) (by omega) py ?_;intro g2 c2' w2 hown2 hgrow2 hat2 sZ)
       all_goals go_wp2_with fail
       all_goals
        have jm:(wr.alloc (.cells #[.string (bs nm++bs sx)] 9)).grownBy w2 _:=⟨hgrow2.os,hgrow2.tape,hgrow2.output,hgrow2.size,hgrow2.block⟩;have e:bs nm++bs sx=bs (nm++sx):=DH (by rw[dJ,bp,bp]);rw[e]at hown2;have U1:=HG.out;rw[HP.out]at U1;go_roundw
        case rel=>exact⟨k+1,_,ps,nx,by omega,by go_num,H.push rfl hown2 jm (V7 _ (by simp[sliced,Addr.add])) H.Pz U1 PI.out S9.out (fun _ h=>jN _ h) (fun _ h=>h)⟩
        case measure=>simp[intOf];omega
  ·have la:k=(ae l.op).length:=by omega
   subst la;have hW:W=kJ q.locals l:=by
    have:=H.same;rw[List.drop_length,bN,List.append_nil]at this;exact this.symm
   have KJ:=Ax (tr:=W) H.row (by have:=H.jt;omega) (fun b hb=>by have:=(UP b (by rw[<-hW];exact hb)).2;omega);go_wp2_with (go_at_call 83;refine KJ.mono ?_;rintro e w1 ⟨rfl,aB⟩)
   go_ret
   exact⟨rfl,H.bz.trans (aB.mono H.bz.size)⟩
end El
namespace El
theorem Sv:True:=trivial
end El
namespace El
open Go Sq Aux Go.Proofs.YtmlgajhhnojdjaaGreatDoor.Own Ex Bal FlwA FlwB FlwC FlwD FlwE FlwF FlwG FlwI FlwJ FlwM FlwS
def JH (v:Nat):Prop:=v=1\/v=2\/v=4\/v=8
instance (v:Nat):Decidable (JH v):=by unfold JH;infer_instance
instance (a b:Nat):Decidable (p8 a b):=by unfold p8;infer_instance
theorem qf {α:Type}(s:List α)(d:α)(i:Nat)(v:α)(k:Nat):(s.set i v).getD k d=if i=k/\k<s.length then v else s.getD k d:=by
 rw[jA,jA,jd];by_cases e:i=k
 ·subst e;by_cases h:i<s.length
  ·simp[h]
  ·simp[h]
 ·simp[e]
section
variable {q:QP} {g:List Nat} {ints:List Int} {boxes:List Nat} {cs:List (Bool×Int)}
theorem Kd (hg:∀k,k<24->JH (g.getD k 0))(i:Nat){v:Nat}(hv:JH v):∀k,k<24->JH ((g.set i v).getD k 0):=fun k hk=>by
 rw[qf];split
 ·exact hv
 ·exact hg k hk
end
end El
namespace El
open Go Sq Aux Go.Proofs.YtmlgajhhnojdjaaGreatDoor.Own RunA RunB Ex Bal PrjS FlwA FlwB FlwC FlwD FlwE FlwF FlwG FlwH FlwJ FlwM FlwS
theorem Bf (m:Nat):∀(ps:List (Nat×Nat)) (s:List Nat),(eO m ps s).length=s.length
 |[],_=>rfl
 |x::ps,s=>by show(eO m ps (s.set _ m)).length=_;rw[Bf m ps];simp
theorem mI:∀(ps:List (Nat×Nat)) (s:List Nat),(dz ps s).length=s.length
 |[],_=>rfl
 |x::ps,s=>by show(dz ps (s.set _ _)).length=_;rw[mI ps];simp
theorem IG (x:Nat×Nat):JH (if x.2=3 then 8 else 1):=by split<;>decide
theorem mJ (q:QP)(l:ab)(s:List Nat):(aR q l s).length=s.length:=by
 unfold aR;split
 ·exact mI _ _
 split
 ·exact mI _ _
 ·rfl
theorem tG {q:QP}{x:Nat×Nat}(h:q.aT x=3):q.cF x.1=3/\¬(x.2=1\/x.2=2\/x.2=3):=by
 unfold QP.aT at h;split at h
 ·omega
 ·exact⟨h,by assumption⟩
theorem tF {q:QP}{x:Nat×Nat}(h:q.aT x=3):QP.ai q x=[x]/\ah x=2*x.1:=by
 obtain⟨h1,h2⟩:=tG h;refine⟨?_,?_⟩
 ·unfold QP.ai;rw[ja (by omega)]
 ·unfold ah;rw[ja (by omega)]
section
variable {q:QP} {Rb:List (List ab)} {room:Int} {un:List Bool} {s g:List Nat} {o o':Own.Own} {b b2:Br} {l:ab} {is:List Item} {rs:List ab}
theorem yS (m:Nat):∀(ps:List (Nat×Nat)) (s:List Nat) (k:Nat),(eO m ps s).getD k 0=if k∈ps.map ah/\k<s.length then m else s.getD k 0
 |[],s,k=>by rw[ja (by simp)];rfl
 |x::ps,s,k=>by
  show(eO m ps (s.set (ah x) m)).getD k 0=_
  rw[yS m ps,qf,List.length_set];by_cases h1:k∈ps.map ah/\k<s.length
  ·rw[jb h1,jb ⟨by simp only[List.map_cons,List.mem_cons];exact .inr h1.1,h1.2⟩]
  ·rw[ja h1];by_cases h2:ah x=k/\k<s.length
   ·rw[jb h2,jb ⟨by simp only[List.map_cons,List.mem_cons];exact .inl h2.1.symm,h2.2⟩]
   ·rw[ja h2,ja (fun e=>by
     rcases jP.1 (show k∈ah x::ps.map ah from e.1)with h|h
     ·exact h2 ⟨h.symm,e.2⟩
     ·exact h1 ⟨h,e.2⟩)]
theorem q9 (q:QP)(x:Nat×Nat):ah x∈(QP.ai q x).map ah:=by
 rcases dD q x with⟨e,-⟩|⟨e,e1,-⟩<;>rw[e]
 ·simp
 ·simp[ah,e1]
theorem AW (h2:l.op=12)(h3:¬q.aT (aw l 1)=3)(hs:ah (aw l 0)<s.length):(au q l s).getD (ah (aw l 0)) 0=2:=by
 have em:da q (l.places.getD 1 (0,0)) s=2:=by unfold da;exact ja h3
 unfold au;rw[ja (by rw[h2];decide),jb h2,em,yS,jb ⟨q9 q (aw l 0),by rw[mJ];exact hs⟩]
end
end El
namespace El
theorem Sw:True:=trivial
end El
namespace El
open Go Sq Aux Go.Proofs.YtmlgajhhnojdjaaGreatDoor.Own RunA RunB Ex Bal PrjS FlwA FlwB FlwC FlwD FlwE FlwF FlwG FlwH FlwJ FlwM FlwS
section
variable {q:QP} {g:List Nat} {ints:List Int} {cs:List (Bool×Int)}
end
def zU (q:QP)(l:ab):List (Nat×Nat):=if l.op=12 then QP.ai q (aw l 1)else if l.op=14 then [aw l 1]else []
theorem tU (q:QP)(l:ab)(s:List Nat):aR q l s=dz (zU q l) s:=by
 unfold aR zU;by_cases h1:l.op=12
 ·rw[jb h1,jb h1];rfl
 ·rw[ja h1,ja h1];by_cases h2:l.op=14
  ·rw[jb h2,jb h2];rfl
  ·rw[ja h2,ja h2];rfl
section
variable {q:QP} {Rb:List (List ab)} {room:Int} {un:List Bool} {s g:List Nat} {o o1:Own.Own} {b:Br} {l:ab} {is:List Item} {rs:List ab}
theorem Dp {v:Nat}(h:JH v):dW v=false:=by
 rcases h with e|e|e|e<;>subst e<;>rfl
end
end El
namespace El
open Go Sq Aux Go.Proofs.YtmlgajhhnojdjaaGreatDoor.Own RunA RunB Ex Bal PrjS FlwA FlwB FlwC FlwD FlwE FlwF FlwG FlwH FlwJ FlwM FlwS
section
variable {q:QP} {Rb:List (List ab)} {room:Int} {un:List Bool} {s g:List Nat} {o:Own.Own} {b b1:Br} {l:ab} {is:List Item} {rs:List ab}
theorem Ht (cV:¬l.op=12)(vF:¬l.op=14):zU q l=[]:=by unfold zU;rw[ja cV,ja vF]
theorem Gv (cV:¬l.op=12)(vF:¬l.op=14)(s:List Nat):aR q l s=s:=by rw[tU,Ht cV vF];rfl
end
end El
namespace El
theorem Sx:True:=trivial
end El
namespace El
open Go Sq Aux Go.Proofs.YtmlgajhhnojdjaaGreatDoor.Own RunA RunB Ex Bal PrjS FlwA FlwB FlwC FlwD FlwE FlwF FlwG FlwH FlwI FlwJ FlwM FlwS
section
variable {q:QP} {Rb:List (List ab)} {room:Int} {un:List Bool} {s g:List Nat} {o:Own.Own} {b b1:Br} {l:ab} {is:List Item} {rs:List ab}
theorem Au (q:QP)(un:List Bool)(s:List Nat)(l:ab)(is:List Item):bo q un s l++is=aN (aR q l s) (bf q l)++((if l.op=15 then []else [.line l])++(aY un s (au q l s) 24++((if l.op=12 then bw un (au q l s) (aw l 0)else [])++is))):=by
 unfold bo;simp only[List.append_assoc]
theorem sH (un:List Bool)(s:List Nat):∀n,aY un s s n=[]
 |0=>rfl
 |n+1=>by
  have e:aY un s s (n+1)=aY un s s n++dw (un.getD n false) (s.getD n 0) (s.getD n 0) n:=by simp[aY,List.range_succ]
  rw[e,sH un s n];unfold dw;split
  ·rfl
  ·rw[ja (fun x=>x.2 x.1),ja (fun x=>x.2 x.1)];rfl
theorem Df (aH:18<=l.op):bo q un s l++is=aN s (bf q l)++(.line l::is):=by
 rw[Au,ja (by omega),ja (by omega),Gv (by omega) (by omega)];have hp:au q l s=s:=pP (by
  unfold pz;simp only[Bool.or_eq_false_iff,beq_eq_false_iff_ne,ne_eq];omega) (by omega) (by omega) (by omega)
 rw[hp,sH];rfl
end
end El
end Go.Proofs.YtmlgajhhnojdjaaGreatDoor

import Derived.Test.YtmlgajhhnojdjaaGreatDoorUBG
namespace Go.Proofs.YtmlgajhhnojdjaaGreatDoor
namespace El
open Go Go.RowKit Sq Aux Go.Proofs.YtmlgajhhnojdjaaGreatDoor.Own RefRa PrjF PrjG PrjJ PrjK PrjL PrjM PrjO PrjP PrjS PrjT FlwA FlwB FlwE
def Qm:List Value:=[.string (bs (iW 0)),.string (bs (iW 1)),.string (bs (iW 2)),.string (bs (iW 3))]
def oc (w:World):Prop:=w.rangeAt 2 0 Qm
theorem oc.below {w w':World}{b:Nat}(h:oc w)(hb:Below b w w')(hs:11<=b):oc w':=fun j v hv=>by
 rw[hb.cell (p:=⟨2,0+j,none⟩) (jK (show 2<11 by decide) hs)];exact h j v hv
theorem Qn {w:World}(h:oc w){k:Nat}(hk:k<=3):w.cell? ⟨2,k,none⟩=some (.string (bs (iW k))):=by
 have hc:k=0\/k=1\/k=2\/k=3:=by omega
 rcases hc with rfl|rfl|rfl|rfl
 ·exact h 0 _ rfl
 ·exact h 1 _ rfl
 ·exact h 2 _ rfl
 ·exact h 3 _ rfl
theorem SR (op:Nat)(h:op<23):fh[op*2]?=some (.string (bs (cq op))):=by
 have h:op=0\/op=1\/op=2\/op=3\/op=4\/op=5\/op=6\/op=7\/op=8\/op=9\/op=10\/op=11\/op=12\/op=13\/op=14\/op=15\/op=16\/op=17\/op=18\/op=19\/op=20\/op=21\/op=22:=by omega
 rcases h with rfl|rfl|rfl|rfl|rfl|rfl|rfl|rfl|rfl|rfl|rfl|rfl|rfl|rfl|rfl|rfl|rfl|rfl|rfl|rfl|rfl|rfl|rfl<;>rfl
theorem vG {w:World}(E:Env w)(op:Nat)(h:op<23):w.cell? ⟨0,op*2,none⟩=some (.string (bs (cq op))):=by
 have:=E.Jm (op*2) (.string (bs (cq op))) (SR op h);simpa using this
theorem Ny {w:World}(E:Env w)(t:Nat)(h:t<=3):w.cell? ⟨1,t,none⟩=some (.string (bs (cN.getD t []))):=by
 have hc:t=0\/t=1\/t=2\/t=3:=by omega
 rcases hc with rfl|rfl|rfl|rfl
 ·exact E.types 0 _ rfl
 ·exact E.types 1 _ rfl
 ·exact E.types 2 _ rfl
 ·exact E.types 3 _ rfl
def Q7 (z:Nat)(w:World)(v:Value)(ps:List (Nat×Nat)):Prop:=(ps=[]/\∃ad c,v=.slice ad 0 c)\/
 ∃g o c,v=.slice (some ⟨g,o,none⟩) ps.length c/\ps.length<=c/\g<z/\∀j,j<ps.length->w.cell? ⟨g,o+j*2,none⟩=some (.int .i64 ((ps.getD j (0,0)).1:Nat))/\w.cell? ⟨g,o+j*2+1,none⟩=some (.int .i64 ((ps.getD j (0,0)).2:Nat))
def QH (z:Nat)(w:World)(v:Value)(ns:List Nat):Prop:=(ns=[]/\∃ad c,v=.slice ad 0 c)\/
 ∃g o c,v=.slice (some ⟨g,o,none⟩) ns.length c/\ns.length<=c/\g<z/\∀j,j<ns.length->w.cell? ⟨g,o+j,none⟩=some (.int .i64 (ns.getD j 0:Nat))
theorem Q7.below {z:Nat}{w w':World}{v:Value}{ps:List (Nat×Nat)}(h:Q7 z w v ps)(hb:Below z w w'):Q7 z w' v ps:=by
 rcases h with h|⟨g,o,c,h1,h2,h3,h4⟩
 ·exact .inl h
 ·exact .inr ⟨g,o,c,h1,h2,h3,fun j hj=>⟨(hb.cell (p:=⟨g,o+j*2,none⟩) h3).trans (h4 j hj).1,(hb.cell (p:=⟨g,o+j*2+1,none⟩) h3).trans (h4 j hj).2⟩⟩
theorem QH.below {z:Nat}{w w':World}{v:Value}{ns:List Nat}(h:QH z w v ns)(hb:Below z w w'):QH z w' v ns:=by
 rcases h with h|⟨g,o,c,h1,h2,h3,h4⟩
 ·exact .inl h
 ·exact .inr ⟨g,o,c,h1,h2,h3,fun j hj=>(hb.cell (p:=⟨g,o+j,none⟩) h3).trans (h4 j hj)⟩
theorem Q7.open {z:Nat}{w:World}{v:Value}{x:Nat×Nat}{ps:List (Nat×Nat)}(h:Q7 z w v (x::ps)):∃g o c,v=.slice (some ⟨g,o,none⟩) (ps.length+1) c/\ps.length+1<=c/\g<z/\w.cell? ⟨g,o,none⟩=some (.int .i64 (x.1:Nat))/\w.cell? ⟨g,o+1,none⟩=some (.int .i64 (x.2:Nat))/\∀v',v'=sliced (some ⟨g,o,none⟩) 1 (ps.length+1) c 2->Q7 z w v' ps:=by
 rcases h with⟨e,-⟩|⟨g,o,c,h1,h2,h3,h4⟩
 ·cases e
 ·rw[jY]at h1 h2 h4;have h0:=h4 0 (by omega);refine⟨g,o,c,h1,h2,h3,h0.1,h0.2,fun v' hv=> ?_⟩;subst hv;unfold sliced;cases ps with
  |nil=>exact .inl ⟨rfl,_,_,rfl⟩
  |cons y ps=>
   rw[jY]at h2;rw[ja (by omega)];refine .inr ⟨g,o+2,c-1,by rfl,by rw[jY];omega,h3,fun j hj=> ?_⟩;have:=h4 (j+1) (by omega);rw[show o+(j+1)*2=o+2+j*2 by omega]at this;exact this
theorem QH.open {z:Nat}{w:World}{v:Value}{x:Nat}{ps:List Nat}(h:QH z w v (x::ps)):∃g o c,v=.slice (some ⟨g,o,none⟩) (ps.length+1) c/\ps.length+1<=c/\g<z/\w.cell? ⟨g,o,none⟩=some (.int .i64 (x:Nat))/\∀v',v'=sliced (some ⟨g,o,none⟩) 1 (ps.length+1) c 1->QH z w v' ps:=by
 rcases h with⟨e,-⟩|⟨g,o,c,h1,h2,h3,h4⟩
 ·cases e
 ·rw[jY]at h1 h2 h4;have h0:=h4 0 (by omega);refine⟨g,o,c,h1,h2,h3,h0,fun v' hv=> ?_⟩;subst hv;unfold sliced;cases ps with
  |nil=>exact .inl ⟨rfl,_,_,rfl⟩
  |cons y ps=>
   rw[jY]at h2;rw[ja (by omega)];refine .inr ⟨g,o+1,c-1,by rfl,by rw[jY];omega,h3,fun j hj=> ?_⟩;have:=h4 (j+1) (by omega);rw[show o+(j+1)=o+1+j by omega]at this;exact this
theorem M0 {z:Nat}{w:World}{l:ab}{vp vn:Value}(h:aC z w l vp vn):Q7 w.heap.size w vp l.places/\QH w.heap.size w vn l.next:=by
 refine⟨?_,?_⟩
 ·rcases Nat.eq_zero_or_pos l.places.length with h0|h0
  ·obtain⟨ad,c,e⟩:=bG h.places;rw[h0]at e;exact .inl ⟨List.eq_nil_of_length_eq_zero h0,ad,c,e⟩
  ·obtain⟨g,cap,rfl,h1,h2,h3⟩:=cW h.places h0;refine .inr ⟨g,0,cap,rfl,h1,h2,fun j hj=> ?_⟩;obtain⟨g',e',-,-,-,c1,c2⟩:=bK h.places j hj;cases e'
   rw[Nat.zero_add];exact⟨c1,c2⟩
 ·rcases Nat.eq_zero_or_pos l.next.length with h0|h0
  ·obtain⟨ad,c,e⟩:=bG h.next;rw[h0]at e;exact .inl ⟨List.eq_nil_of_length_eq_zero h0,ad,c,e⟩
  ·obtain⟨g,cap,e,h1,h2,h3⟩:=cW h.next h0;refine .inr ⟨g,0,cap,e,h1,h2,fun j hj=> ?_⟩;rw[Nat.zero_add,h3 j (by omega),eg,jJ,jB hj,jA,jB hj];rfl
end El
namespace El
open Go Go.RowKit Sq Aux Go.Proofs.YtmlgajhhnojdjaaGreatDoor.Own RefRa PrjF PrjG PrjJ PrjK PrjL PrjM PrjO PrjP PrjS PrjT FlwA FlwB FlwE
structure Eb (ls:List (B×Nat))(l:ab)(w wr:World)(k:Nat)(vp vn v5 v6 v7:Value)(W:List B)(ps:List (Nat×Nat))(nx:List Nat):Prop where
 row:wr.ownsRow w.heap.size 9 1 v5 W.length (cellsOf W)
 pl:Q7 w.heap.size wr v6 ps
 VX:QH w.heap.size wr v7 nx
 same:fA ls l=W++aY ls l.number l.flag ((ah l.op).drop k) ps nx
 bt:ps.length=(((ah l.op).drop k).filter dk).length
 pa:nx.length=(((ah l.op).drop k).filter (·==98)).length
 pin:∀x∈ps,x.1<ls.length/\x.2<=3
 nin:∀n∈nx,n<=1000000
 aZ:Below w.heap.size w wr
 ln:fK wr w.heap.size l vp vn
 bytes:∃cs fr,wr.heap[w.heap.size+2]?=some (.cells cs 5 fr)/\∀j (h:j<(ah l.op).length),cs[j]?=some (.int .u8 ((ah l.op)[j].toNat:Nat))
 mc:W.length<=k+1
section
variable {ls:List (B×Nat)} {l:ab} {w wr w1 w3:World} {k:Nat} {vp vn v5 v6 v7 v' v6' v7':Value} {W:List B} {ps ps':List (Nat×Nat)} {nx nx':List Nat}
theorem Eb.on (h:Eb ls l w wr k vp vn v5 v6 v7 W ps nx)(hb:Below wr.heap.size wr w1):Eb ls l w w1 k vp vn v5 v6 v7 W ps nx:=by
 have WD:=hb.mono h.aZ.size;obtain⟨cs,fr,h1,h2⟩:=h.bytes;exact⟨aw h.row hb,h.pl.below WD,h.VX.below WD,h.same,h.bt,h.pa,h.pin,h.nin,h.aZ.trans WD,h.ln.below hb (lt_of_heap h.ln),⟨cs,fr,(hb.block _ (lt_of_heap h1)).trans h1,h2⟩,h.mc⟩
theorem Eb.push (h:Eb ls l w wr k vp vn v5 v6 v7 W ps nx){o:Obj}{b:B}{n:Nat}(hn:n=W.length+1)(hown:w3.ownsRow w.heap.size 9 1 v' n (cellsOf W++[.string (bs b)]))(hg:(wr.alloc o).grownBy w3 v5.ownBlock)
  (ee:Q7 w.heap.size wr v6' ps') (lg:QH w.heap.size wr v7' nx') (hs:aY ls l.number l.flag ((ah l.op).drop k) ps nx=b::aY ls l.number l.flag ((ah l.op).drop (k+1)) ps' nx')
  (h1:ps'.length=(((ah l.op).drop (k+1)).filter dk).length) (h2:nx'.length=(((ah l.op).drop (k+1)).filter (·==98)).length) (h3:∀x∈ps',x∈ps) (h4:∀x∈nx',x∈nx):Eb ls l w w3 (k+1) vp vn v' v6' v7' (W++[b]) ps' nx':=by
 have aF:Below wr.heap.size wr (wr.alloc o):=(Below.refl _ _).alloc (jC _) _;have Tt:=aw h.row aF;have hB:=dX h.aZ (jC _) h.aZ.size h.row hg;have C8:Below w.heap.size wr w3:=dX (Below.refl _ _) (jC _) h.aZ.size h.row hg;have hA:=h.on aF;obtain⟨cs,fr,g1,g2⟩:=hA.bytes;have AI:(wr.alloc o).heap[w.heap.size]?=_:=hA.ln;refine⟨?_,ee.below C8,lg.below C8,by rw[h.same,hs,List.append_assoc];rfl,h1,h2,fun x hx=>h.pin x (h3 x hx),fun x hx=>h.nin x (h4 x hx),hB,?_,⟨cs,fr,?_,g2⟩,by rw[jV];have:=h.mc;simp;omega⟩
 ·subst hn;have e:cellsOf (W++[b])=cellsOf W++[.string (bs b)]:=by simp[cellsOf]
  rw[e,jV];exact hown
 ·show w3.heap[w.heap.size]?=_
  rw[hg.block _ (lt_of_heap AI) (aU Tt AI (by decide))];exact AI
 ·rw[hg.block _ (lt_of_heap g1) (aU Tt g1 (by decide))];exact g1
end
theorem SO {w:World}{z g:Nat}{b:B}(hz:z<=g)(hb:w.heap[g]?=some (.cells #[.string (bs b)] 9 (0,0))):w.ownsRow z 9 1 (.slice (some ⟨g,0,none⟩) 1 1) 1 (cellsOf [b]):=by
 refine⟨rfl,.inr ⟨g,1,#[.string (bs b)],rfl,hz,hb,jC _,by unfold maxLen;omega,rfl,rfl⟩⟩
theorem ry {w w1:World}(h:∃k os,w1=Go.Sort.grow (w.drewN k) os):Below w.heap.size w w1:=by
 obtain⟨k,os,rfl⟩:=h;exact yz k os w
set_option maxRecDepth 20000 in
set_option maxHeartbeats 4000000 in
theorem Jv (q:QP)(l:ab)(nb z a:Nat)(v u:Value)(ap an:Option Addr)(cp cn:Nat)(w:World)(hp:w.heap[a]?=some (.cells #[v,u] 110 (0,0)))(hv:gM w v q.locals)(_h12:q.locals.length<=12)(kp:∀x∈q.locals,isName x.1=true)
  (hl:Told q.locals nb l) (tC:nb<=1000000) (hA:aC z w l (.slice ap l.places.length cp) (.slice an l.next.length cn)) (E:Env w) (hS:oc w) (hP:Pow w):
  Calls Tryz.prog 82 #[.pointer (some ⟨a,0,none⟩),.agg #[.int .i64 (l.num:Nat),.int .i64 (l.op:Nat),.slice ap l.places.length cp,.int .i64 l.number,.int .i64 l.flag,.slice an l.next.length cn]] w fun e w'=>e=.returned (.string (bs (oW q.locals l)))/\Below w.heap.size w w':=by
 obtain⟨i,hi,Hb,tY,tZ⟩:=info_parts zj;have UB:=hl.ok.op;have QU:(ah l.op).length<=3:=CI ⟨l.op,UB⟩;obtain⟨A1,J2⟩:∃A1,w.alloc (.cells #[.int .i64 (l.num:Nat),.int .i64 (l.op:Nat),.slice ap l.places.length cp,.int .i64 l.number,.int .i64 l.flag,.slice an l.next.length cn] 115)=A1:=⟨_,rfl⟩;have aF:Below w.heap.size w A1:=by rw[<-J2];exact(Below.refl _ _).alloc (jC _) _
 have s1:A1.heap.size=w.heap.size+1:=by rw[<-J2];simp
 have pK:fK A1 w.heap.size l (.slice ap l.places.length cp) (.slice an l.next.length cn):=by rw[<-J2];exact jD
 obtain⟨-,l1,l2,l3,l4,l5,-⟩:=pK.facts;have o8:=vG (E.on aF) l.op UB;go_enter Tryz.func82,Tryz.ntmps82
 obtain⟨A2,y8⟩:∃A2,A1.alloc (.cells #[.string (bs (cq l.op))] 9)=A2:=⟨_,rfl⟩;have bH:Below A1.heap.size A1 A2:=by rw[<-y8];exact(Below.refl _ _).alloc (jC _) _
 have L1:=pK.below bH (by omega);have Tv:A2.ownsRow w.heap.size 9 1 (.slice (some ⟨w.heap.size+1,0,none⟩) 1 1) 1 (cellsOf [cq l.op]):=SO (by omega) (by rw[<-y8,<-s1];exact jD);have s2:A2.heap.size=w.heap.size+2:=by rw[<-y8];simp[s1]
 obtain⟨-,m1,m2,m3,m4,m5,-⟩:=L1.facts;go_upto_region 2 with fail
 go_region
 have hcv:=Lib.run_convert_string_bytes (P:=Tryz.prog) A2.drew 9 93 5 (bs (ah l.op)) (u:=.string) Tryz.underlying9 Tryz.underlying93 Tryz.underlying5;obtain⟨A3,OD⟩:∃A3,Lib.bytesWorld A2.drew 5 (bs (ah l.op))=A3:=⟨_,rfl⟩;obtain⟨cb,B8⟩:∃cb,grownCap A2.drew (bs (ah l.op)).size 0 5=cb:=⟨_,rfl⟩;have cT:Below A2.heap.size A2 A3:=by
  refine⟨by rw[<-OD];rfl,by rw[<-OD];rfl,by rw[<-OD];rfl,by rw[<-OD,Lib.bytesWorld_size];show A2.heap.size<=A2.heap.size+1;omega,fun k hk=> ?_⟩;rw[<-OD];exact Lib.bytesWorld_at_old A2.drew _ _ _ hk
 have Z6:∃cs fr,A3.heap[w.heap.size+2]?=some (.cells cs 5 fr)/\∀j (h:j<(ah l.op).length),cs[j]?=some (.int .u8 ((ah l.op)[j].toNat:Nat)):=by
  have hn:=Lib.bytesWorld_at_new A2.drew 5 (bs (ah l.op));rw[OD]at hn;have e:A2.drew.heap.size=w.heap.size+2:=s2;rw[e]at hn;refine⟨_,_,hn,fun j hj=> ?_⟩;unfold Lib.bytesCells;rw[Array.getElem?_append_left (by simp[bs];exact hj)];simp[bs,hj]
 have fy:Eb q.locals l w A3 0 (.slice ap l.places.length cp) (.slice an l.next.length cn) (.slice (some ⟨w.heap.size+1,0,none⟩) 1 1) (.slice ap l.places.length cp) (.slice an l.next.length cn) [cq l.op] l.places l.next:=by
  have hB:Below w.heap.size w A3:=(aF.trans (bH.mono (by omega))).trans (cT.mono (by omega));obtain⟨k1,k2⟩:=M0 hA;refine⟨aw Tv cT,k1.below hB,k2.below hB,rfl,hl.ok.bt,hl.ok.pa,hl.ok.places,fun n hn=>by have:=hl.ok.next n hn;omega,hB,L1.below cT (by omega),Z6,by simp⟩
 have lj:(bs (ah l.op)).size=(ah l.op).length:=fI _;have E3:=E.on fy.aZ;clear pK L1 Tv bH cT l1 l2 l3 l4 l5 o8;have X9:=kY (E.on (aF.trans (((Below.refl _ _).alloc (jC _) (.cells #[.string (bs (cq l.op))] 9)).mono (by omega)))) l.op UB;rw[y8]at X9;go_wp2
 go_loopw [5,6,7,27] (fun v5 v6 v7 i wr=>∃(k:Nat) (W:List B) (ps:List (Nat×Nat)) (nx:List Nat),k<=(ah l.op).length/\i=.int .i64 k/\Eb q.locals l w wr k (.slice ap l.places.length cp) (.slice an l.next.length cn) v5 v6 v7 W ps nx) (fun _ _ _ i _=>(ah l.op).length-(intOf i).toNat)
 case atStart=>exact⟨0,_,_,_,jQ _,rfl,fy⟩
 case round=>
  clear fy E3 X9 hcv OD y8 J2 aF s1 s2 m1 m2 m3 m4 m5;obtain⟨k,W,ps,nx,hk,rfl,H⟩:=hrel;obtain⟨-,l1,l2,l3,l4,l5,-⟩:=H.ln.facts;obtain⟨cs,fr,qS,OM⟩:=H.bytes;have E1:=E.on H.aZ;have hwrd:=yl kp (jS tC (by decide)) hl;by_cases bg:k<(ah l.op).length
  ·have Ip:wr.cell? ⟨w.heap.size+2,k,none⟩=some (.int .u8 ((ah l.op)[k].toNat:Nat)):=by rw[cell_of_heap qS];exact OM k bg
   have A8:(ah l.op).drop k=(ah l.op)[k]::(ah l.op).drop (k+1):=jE bg;have HW:Hid (_):=H.same;have h1:=H.bt;have h2:=H.pa;rw[A8,List.filter_cons]at h1 h2;have eC:∀n:Nat,n<256->((((ah l.op)[k].toNat:Int)==(n:Int))=true↔(ah l.op)[k]=UInt8.ofNat n):=fun n hn=>by
    rw[xC (ah l.op)[k] n hn,beq_iff_eq];omega
   have e1:=eC 35 (by omega);have e2:=eC 118 (by omega);have e3:=eC 102 (by omega);have e4:=eC 98 (by omega);simp only[Int.cast_ofNat_Int]at e1 e2 e3 e4;clear eC;by_cases c1:(((ah l.op)[k].toNat:Int)==35)=true\/(((ah l.op)[k].toNat:Int)==118)=true
   ·have c1':=PrjI.Jd c1;have cc:(ah l.op)[k]=35\/(ah l.op)[k]=118:=c1.imp e1.1 e2.1;have ee:dk (ah l.op)[k]=false:=by rcases cc with h|h<;>rw[h]<;>rfl
    have tA:((ah l.op)[k]==98)=false:=by rcases cc with h|h<;>rw[h]<;>rfl
    have HG:Hid (aY q.locals l.number l.flag ((ah l.op).drop k) ps nx=Lib.itoa l.number::aY q.locals l.number l.flag ((ah l.op).drop (k+1)) ps nx):=by
     unfold Hid;rw[A8,aY,jb cc,sr]
    rw[ja (by rw[ee];decide)]at h1;rw[ja (by rw[tA];decide)]at h2;have KF:=Tryz.strconv_FormatInt_10 l.number (by have:=hl.ok.number.1;omega) (by have:=hl.ok.number.2;omega) wr (hP.below H.aZ E.size);clear e1 e2 e3 e4 c1 cc ee tA A8 HW;rcases c1' with b1|⟨b1,b2⟩
    all_goals
     go_wp2_with (first
      |(go_at_call 133;refine KF.mono ?_;rintro e w1 ⟨rfl,D4⟩;have H1:=H.on (ry D4);clear D4;have sE:=H1.aZ.size;have xV:=H1.mc)
      |(at_builtin;go_must (refine gN rfl _ _ 34 rfl w.heap.size 9 i (.string ⟨#[]⟩) 16 Tryz.underlying34 hi Hb tY tZ rfl _ _ _ rfl H1.row _ rfl rfl (by decide) (by omega) sE ?_);intro g2 c2' w2 hown2 hgrow2 hat2 Dg))
     go_roundw
     case rel=>exact⟨k+1,_,ps,nx,by omega,by go_num,H1.push rfl hown2 hgrow2 H1.pl H1.VX HG.out h1 h2 (fun _ h=>h) (fun _ h=>h)⟩
     case measure=>simp[intOf];omega
   ·have d1:=c1;simp only[not_or,Bool.not_eq_true]at c1;obtain⟨b1,b2⟩:=c1;have cc:¬((ah l.op)[k]=35\/(ah l.op)[k]=118):=fun h=>d1 (h.imp e1.2 e2.2)
    clear d1;by_cases c2:(((ah l.op)[k].toNat:Int)==102)=true
    ·have c3:(ah l.op)[k]=102:=e3.1 c2;have ee:dk (ah l.op)[k]=false:=by rw[c3];rfl
     have tA:((ah l.op)[k]==98)=false:=by rw[c3];rfl
     have HG:Hid (aY q.locals l.number l.flag ((ah l.op).drop k) ps nx=Lib.itoa l.flag::aY q.locals l.number l.flag ((ah l.op).drop (k+1)) ps nx):=by
      unfold Hid;rw[A8,aY,ja cc,jb c3,sr]
     rw[ja (by rw[ee];decide)]at h1;rw[ja (by rw[tA];decide)]at h2;have KF:=Tryz.strconv_Itoa l.flag (by have:=hl.ok.flag.1;omega) (by have:=hl.ok.flag.2;omega) wr (hP.below H.aZ E.size);clear e1 e2 e3 e4 c3 cc ee tA A8 HW;go_wp2_with (first
      |(go_at_call 134;refine KF.mono ?_;rintro e w1 ⟨rfl,D4⟩;have H1:=H.on (ry D4);clear D4;have sE:=H1.aZ.size;have xV:=H1.mc)
      |(at_builtin;go_must (refine gN rfl _ _ 34 rfl w.heap.size 9 i (.string ⟨#[]⟩) 16 Tryz.underlying34 hi Hb tY tZ rfl _ _ _ rfl H1.row _ rfl rfl (by decide) (by omega) sE ?_);intro g2 c2' w2 hown2 hgrow2 hat2 Dg))
     go_roundw
     case rel=>exact⟨k+1,_,ps,nx,by omega,by go_num,H1.push rfl hown2 hgrow2 H1.pl H1.VX HG.out h1 h2 (fun _ h=>h) (fun _ h=>h)⟩
     case measure=>simp[intOf];omega
    ·have d2:¬(ah l.op)[k]=102:=fun h=>c2 (e3.2 h)
     rw[Bool.not_eq_true]at c2;by_cases c3:(((ah l.op)[k].toNat:Int)==98)=true
     ·have d3:(ah l.op)[k]=98:=e4.1 c3;have ee:dk (ah l.op)[k]=false:=by rw[d3];rfl
      rw[ja (by rw[ee];decide)]at h1;rw[jb (by rw[d3];rfl)]at h2;cases nx with
      |nil=>simp at h2
      |cons n nx=>
       have HG:Hid (aY q.locals l.number l.flag ((ah l.op).drop k) ps (n::nx)=Lib.itoa (n:Int)::aY q.locals l.number l.flag ((ah l.op).drop (k+1)) ps nx):=by
        unfold Hid;rw[A8,aY,ja cc,ja d2,jb d3,<-BU];rfl
       have LL:nx.length=(((ah l.op).drop (k+1)).filter (·==98)).length:=by simpa using h2
       obtain⟨gn,on,kn,rfl,hkn,Xx,Vy,hon⟩:=H.VX.open;have L6:=H.nin n (jM ..);have KF:=Tryz.strconv_Itoa (n:Int) (by omega) (by omega) wr (hP.below H.aZ E.size);have V5:Hid (_):=h1;have Zf:Hid (_):=LL;clear h1 LL;clear e1 e2 e3 e4 d2 d3 cc ee A8 HW h2;go_wp2_with (first
        |(go_at_call 134;refine KF.mono ?_;rintro e w1 ⟨rfl,D4⟩;have H1:=H.on (ry D4);have hon1:=QH.open H1.VX;clear D4;have sE:=H1.aZ.size;have xV:=H1.mc)
        |(at_builtin;go_must (refine gN rfl _ _ 34 rfl w.heap.size 9 i (.string ⟨#[]⟩) 16 Tryz.underlying34 hi Hb tY tZ rfl _ _ _ rfl H1.row _ rfl rfl (by decide) (by omega) sE ?_);intro g2 c2' w2 hown2 hgrow2 hat2 Dg))
       go_roundw
       case rel=>
        obtain⟨gn',on',kn',en,-,-,-,hon'⟩:=hon1;cases en
        exact⟨k+1,_,ps,nx,by omega,by go_num,H1.push rfl hown2 hgrow2 H1.pl (hon' _ (by simp[sliced,Addr.add])) HG.out V5.out Zf.out (fun _ h=>h) (fun _ h=>jN _ h)⟩
       case measure=>simp[intOf];omega
     ·have d3:¬(ah l.op)[k]=98:=fun h=>c3 (e4.2 h)
      rw[Bool.not_eq_true]at c3;rw[not_or]at cc;have ee:dk (ah l.op)[k]=true:=by simp[dk,cc.1,cc.2,d2,d3]
      have tA:((ah l.op)[k]==98)=false:=by rw[jZ];exact d3
      rw[jb ee]at h1;rw[ja (by rw[tA];decide)]at h2;cases ps with
      |nil=>simp at h1
      |cons x ps=>
       have HG:Hid (aY q.locals l.number l.flag ((ah l.op).drop k) (x::ps) nx=Ks q.locals x::aY q.locals l.number l.flag ((ah l.op).drop (k+1)) ps nx):=by
        unfold Hid;rw[A8,aY,ja (by rw[not_or];exact cc),ja d2,ja d3];rfl
       have B6:ps.length=(((ah l.op).drop (k+1)).filter dk).length:=by simpa using h1
       obtain⟨gn,on,kn,rfl,hkn,Xx,Vy,aaa,hon⟩:=H.pl.open;obtain⟨j6,Ha⟩:=H.pin x (jM ..);obtain⟨x1,x2⟩:=x;simp only at j6 Ha Vy aaa;have hvr:=hv.below H.aZ;obtain⟨gl,cl,rfl,AH,sf,NP⟩:=(qv hvr).resolve_left (fun e=>by rw[e.1]at j6;simp at j6);obtain⟨hlc1,-⟩:=NP x1 j6;have RQ:=lt_of_heap hp;have yi:wr.heap[a]?=_:=(H.aZ.block a RQ).trans hp;have hpc:wr.cell? ⟨a,0,none⟩=some (.slice (some ⟨gl,0,none⟩) q.locals.length cl):=by rw[cell_of_heap yi];rfl
       have hsc:=Qn (hS.below H.aZ E.size) Ha;have iP:(q.locals.getD x1 ([],0)).1.length<=4:=by
        have:q.locals.getD x1 ([],0)∈q.locals:=by rw[jA,jB j6];exact jL j6
        exact(oE (kp _ this)).2
       have lH:=(CF x2).2;have HP:Hid (Ks q.locals (x1,x2)=(q.locals.getD x1 ([],0)).1++iW x2):=rfl;clear NP hvr hv yi;generalize (q.locals.getD x1 ([],0)).1=nm at*;have hov:¬9223372036854775807<nm.length+(iW x2).length:=by omega
       have sE:=H.aZ.size;have xV:=H.mc;generalize iW x2=sx at*;have V5:Hid (_):=B6;have Zf:Hid (_):=h2;have hx4:(x2:Int)<4:=by omega
       clear e1 e2 e3 e4 d2 d3 cc ee tA A8 HW h1 B6 h2;go_upto_region 7 with fail
       go_region_law (refine CD (by rfl) _ _ _ (by rfl) w.heap.size 9 i (.string ⟨#[]⟩) 16 Tryz.underlying34 hi Hb tY tZ (by rfl) _ _ _ (by rfl) (aw H.row (show Below wr.heap.size wr wr.drew from⟨rfl,rfl,rfl,jC _,fun _ _=>rfl⟩)) _ (by rfl) (by rfl) (by decide) (by omega) sE ?_;intro g2 c2' w2 hown2 hgrow2 hat2 Dg)
       all_goals go_wp2_with fail
       all_goals
        have lY:(wr.alloc (.cells #[.string (bs nm++bs sx)] 9)).grownBy w2 _:=⟨hgrow2.os,hgrow2.tape,hgrow2.output,hgrow2.size,hgrow2.block⟩;have e:bs nm++bs sx=bs (nm++sx):=JY (by rw[fu,bP,bP]);rw[e]at hown2;have HG2:=HG.out;rw[HP.out]at HG2;go_roundw
        case rel=>exact⟨k+1,_,ps,nx,by omega,by go_num,H.push rfl hown2 lY (hon _ (by simp[sliced,Addr.add])) H.VX HG2 V5.out Zf.out (fun _ h=>jN _ h) (fun _ h=>h)⟩
        case measure=>simp[intOf];omega
  ·have mY:k=(ah l.op).length:=by omega
   subst mY;have hW:W=fA q.locals l:=by
    have:=H.same;rw[List.drop_length,aY,List.append_nil]at this;exact this.symm
   have KJ:=Fv (tr:=W) H.row (by have:=H.mc;omega) (fun b hb=>by have:=(hwrd b (by rw[<-hW];exact hb)).2;omega);go_wp2_with (go_at_call 83;refine KJ.mono ?_;rintro e w1 ⟨rfl,aG⟩)
   go_ret
   exact⟨rfl,H.aZ.trans (aG.mono H.aZ.size)⟩
end El
namespace El
open Go Sq Aux Go.Proofs.YtmlgajhhnojdjaaGreatDoor.Own Ex Bal FlwA FlwE FlwF FlwG
def ix (R:QP)(room:Int)(l:ab)(ls:List ab)(b:Br):Option (List ab×Br):=
 if b.breaks R l=true then none
 else if l.op=6 then(if b.val R (ag l 2)=0 then none else some (ls,b.calc R l))
 else if l.op=9 then(if b.yd.live≥room then none else some (ls,b.new R (ag l 0) (b.val R (ag l 1))))
 else if l.op=18\/l.op=19\/l.op=20\/l.op=21 then(if ls=[]then some (R.blocks.getD (l.next.getD (if b.other R l then 1 else 0) 0) [],b)else none)
 else if l.op=22 then none
 else some (ls,b.cz R l)
section
variable {R:QP} {room:Int}
theorem SH {l:ab}{ls ls':List ab}{b b':Br}(h:ix R room l ls b=some (ls',b'))(f:Nat):da R room (f+1) (l::ls) b=da R room f ls' b':=by
 rw[da];unfold ix at h;by_cases h1:b.breaks R l=true
 ·rw[jb h1]at h;cases h
 rw[ja h1]at h⊢;by_cases h2:l.op=6
 ·rw[jb h2]at h⊢;by_cases h3:b.val R (ag l 2)=0
  ·rw[jb h3]at h;cases h
  ·rw[ja h3]at h⊢;cases h;rfl
 rw[ja h2]at h⊢;by_cases h3:l.op=9
 ·rw[jb h3]at h⊢;by_cases h4:b.yd.live≥room
  ·rw[jb h4]at h;cases h
  ·rw[ja h4]at h⊢;cases h;rfl
 rw[ja h3]at h⊢;by_cases h4:l.op=18\/l.op=19\/l.op=20\/l.op=21
 ·rw[jb h4]at h⊢;by_cases h5:ls=[]
  ·rw[jb h5]at h⊢;cases h;rfl
  ·rw[ja h5]at h;cases h
 rw[ja h4]at h⊢;by_cases h5:l.op=22
 ·rw[jb h5]at h;cases h
 rw[ja h5]at h⊢;cases h;rfl
inductive cS (R:QP) (room:Int):Nat->List ab->Br->List ab->Br->Prop
 |refl (ls:List ab) (b:Br):cS R room 0 ls b ls b
 |step {n:Nat} {l:ab} {ls ls1 ls2:List ab} {b b1 b2:Br}:ix R room l ls b=some (ls1,b1)->cS R room n ls1 b1 ls2 b2->cS R room (n+1) (l::ls) b ls2 b2
theorem cS.one {l:ab}{ls ls':List ab}{b b':Br}(h:ix R room l ls b=some (ls',b')):cS R room 1 (l::ls) b ls' b':=.step h (.refl _ _)
theorem cS.trans {n m:Nat}{ls ls1 ls2:List ab}{b b1 b2:Br}(h:cS R room n ls b ls1 b1)(h':cS R room m ls1 b1 ls2 b2):cS R room (n+m) ls b ls2 b2:=by
 induction h with
 |refl=>rw[Nat.zero_add];exact h'
 |step h1 _ ih=>rw[show∀a:Nat,a+1+m=(a+m)+1 by intro a;omega];exact .step h1 (ih h')
theorem Cy {n:Nat}{ls ls':List ab}{b b':Br}(h:cS R room n ls b ls' b'):∀(F:Nat) (r:Nat×Int×Br),da R room F ls b=some r->(n<=F/\da R room (F-n) ls' b'=some r)\/(F<n/\r.1=2):=by
 induction h with
 |refl=>intro F r hr;exact .inl ⟨jQ _,hr⟩
 |step h1 _ ih=>
  intro F r hr;cases F with
  |zero=>rw[da]at hr;cases hr;exact .inr ⟨by omega,rfl⟩
  |succ F=>
   rw[SH h1]at hr;rcases ih F r hr with⟨h2,h3⟩|⟨h2,h3⟩
   ·exact .inl ⟨by omega,by rw[show∀a:Nat,F+1-(a+1)=F-a by intro a;omega];exact h3⟩
   ·exact .inr ⟨by omega,h3⟩
theorem Oa (q:QP)(b:Br)(l:ab):b.yd.trace<+:(b.cz q l).yd.trace:=by
 unfold Br.cz
 repeat' split
 all_goals first
  |exact List.prefix_refl _
  |exact List.prefix_append _ _
  |(rw[Dz];exact List.prefix_refl _)
theorem p4 (q:QP)(room:Int):∀(f:Nat) (ls:List ab) (b:Br) (r:Nat×Int×Br),da q room f ls b=some r->b.yd.trace<+:r.2.2.yd.trace
 |f,[],b,r,h=>by cases f<;>simp[da]at h
 |0,l::ls,b,r,h=>by rw[da]at h;cases h;exact List.prefix_refl _
 |f+1,l::ls,b,r,h=>by
  rw[da]at h;split at h
  ·cases h;exact List.prefix_refl _
  split at h
  ·split at h
   ·cases h;exact List.prefix_refl _
   ·exact(show b.yd.trace<+:(b.calc q l).yd.trace from List.prefix_refl _).trans (p4 q room f ls _ r h)
  split at h
  ·split at h
   ·cases h;exact List.prefix_refl _
   ·exact(show b.yd.trace<+:(b.new q (ag l 0) (b.val q (ag l 1))).yd.trace from List.prefix_append _ _).trans (p4 q room f ls _ r h)
  split at h
  ·split at h
   ·exact p4 q room f _ b r h
   ·cases h
  split at h
  ·cases h;exact List.prefix_refl _
  ·exact(Oa q b l).trans (p4 q room f ls _ r h)
theorem fj {b:Br}{x:Nat×Nat}(ht:bA R x=false):b.cell R x=b.cs.getD (ae x) (false,0):=by unfold Br.cell;rw[jh ht]
theorem zN {b:Br}{l:ab}(h:l.op=17\/l.op=18\/l.op=21):b.breaks R l=false:=by
 unfold Br.breaks;rw[ja (by omega),ja (by omega),ja (by omega),ja (by omega),ja (by omega),ja (by omega),ja (by omega)]
theorem H7 {b:Br}{l:ab}{x:Nat×Nat}{n:Nat}(ls:List ab)(ho:l.op=16)(hp:ag l 0=x)(ht:bA R x=false)(hc:b.cs.getD (ae x) (false,0)=(true,((n:Nat):Int)))(hl:(b.yd.at n).2=true):ix R room l ls b=some (ls,{b with yd:=b.yd.free n}):=by
 have hv:b.val R (ag l 0)=n:=by rw[hp];show(b.cell R x).2=n;rw[fj ht,hc]
 have hd:b.dead R (ag l 0)=false:=by
  unfold Br.dead;rw[hv,hp,fj ht,hc,Int.toNat_natCast,hl];rfl
 have mi:b.breaks R l=false:=by
  unfold Br.breaks;rw[ja (by omega),ja (by omega),ja (by omega),ja (by omega),ja (by omega),ja (by omega),jb ho];exact hd
 unfold ix;rw[mi,ja (by decide),ja (by omega),ja (by omega),ja (by omega),ja (by omega)];unfold Br.cz;rw[ja (by omega),ja (by omega),ja (by omega),ja (by omega),ja (by omega),ja (by omega),jb ho,hv,Int.toNat_natCast]
theorem B0 {b:Br}{x:Nat×Nat}{n:Nat}(ls:List ab)(ht:bA R x=false)(hc:b.cs.getD (ae x) (false,0)=(true,((n:Nat):Int)))(hl:(b.yd.at n).2=true):ix R room (kJ x) ls b=some (ls,{b with yd:=b.yd.free n}):=H7 ls rfl rfl ht hc hl
theorem H3 (b:Br){l:ab}(ls:List ab)(ho:l.op=17):ix R room l ls b=some (ls,{b with flags:=b.flags.set l.flag.toNat (l.number==1)}):=by
 unfold ix;rw[zN (.inl ho),ja (by decide),ja (by omega),ja (by omega),ja (by omega),ja (by omega)];unfold Br.cz;rw[ja (by omega),ja (by omega),ja (by omega),ja (by omega),ja (by omega),ja (by omega),ja (by omega),ja (by omega),ja (by omega),ja (by omega),jb ho]
theorem tP (b:Br)(k:Nat)(v:Int)(ls:List ab):ix R room (dE k v) ls b=some (ls,{b with flags:=b.flags.set k (v==1)}):=H3 b ls rfl
theorem Ie (b:Br){l:ab}(ho:l.op=18):ix R room l [] b=some (R.blocks.getD (l.next.getD 0 0) [],b):=by
 have XU:b.other R l=false:=by
  unfold Br.other;rw[ja (by omega),ja (by omega),ja (by omega)]
 unfold ix;rw[zN (.inr (.inl ho)),ja (by decide),ja (by omega),ja (by omega),jb (.inl ho),jb rfl,XU];rfl
theorem B5 (b:Br)(j:Nat):ix R room (eB j) [] b=some (R.blocks.getD j [],b):=Ie b rfl
theorem Ju (b:Br){l:ab}(ho:l.op=21):ix R room l [] b=some (R.blocks.getD (l.next.getD (if b.flags.getD l.flag.toNat false=true then 0 else 1) 0) [],b):=by
 have XU:b.other R l= !(b.flags.getD l.flag.toNat false):=by
  unfold Br.other;rw[ja (by omega),ja (by omega),jb ho]
 unfold ix;rw[zN (.inr (.inr ho)),ja (by decide),ja (by omega),ja (by omega),jb (.inr (.inr (.inr ho))),jb rfl,XU];cases b.flags.getD l.flag.toNat false<;>rfl
theorem Ns (b:Br)(k i j:Nat):ix R room {vD k with next:=[i,j]} [] b=some (R.blocks.getD (if b.flags.getD k false=true then i else j) [],b):=by
 have h:=Ju (R:=R) (room:=room) b (l:={vD k with next:=[i,j]}) rfl;rw[h];show some (R.blocks.getD ([i,j].getD (if b.flags.getD k false=true then 0 else 1) 0) [],b)=_
 split<;>rfl
theorem FM {b:Br}{l:ab}{x:Nat×Nat}{v:Int}(ho:l.op=20)(hp:ag l 0=x)(hc:b.cell R x=(true,v)):ix R room l [] b=some (R.blocks.getD (l.next.getD (if v=1 then 1 else 0) 0) [],b):=by
 have hv:b.val R x=v:=by unfold Br.val;rw[hc]
 have mi:b.breaks R l=false:=by
  unfold Br.breaks;rw[ja (by omega),jb (by omega),hp];unfold Br.empty;simp[hc]
 have XU:b.other R l=(v==1):=by
  unfold Br.other;rw[ja (by omega),jb ho];show(b.val R (ag l 0)==1)=_
  rw[hp,hv]
 unfold ix;rw[mi,ja (by decide),ja (by omega),ja (by omega),jb (by omega),jb rfl,XU];by_cases e:v=1
 ·subst e;rfl
 ·rw[ja e];have:(v==1)=false:=by simpa using e
  rw[this];rfl
theorem I2 {b:Br}{x:Nat×Nat}(i j:Nat){v:Int}(hc:b.cell R x=(true,v)):ix R room {kg x with next:=[i,j]} [] b=some (R.blocks.getD (if v=1 then j else i) [],b):=by
 have h:=FM (R:=R) (room:=room) (l:={kg x with next:=[i,j]}) rfl rfl hc;rw[h];show some (R.blocks.getD ([i,j].getD (if v=1 then 1 else 0) 0) [],b)=_
 split<;>rfl
def fJ (ns:List Nat)(y:Yd):Yd:=ns.foldl (fun y n=>if n=0 then y else y.free n) y
theorem ES:∀(ns:List Nat) (o:Own.Own),Own.eI ns o={o with yd:=fJ ns o.yd}
 |[],_=>rfl
 |n::ns,o=>by
  rw[Own.eI,ES ns];unfold Own.cR;by_cases h:n=0
  ·rw[jb h];simp[fJ,h]
  ·rw[ja h];simp[fJ,h]
structure NX (R:QP)(s:List Nat)(b:Br)(x:Nat×Nat)(n:Nat):Prop where
 tag:bA R x=false
 cell:¬n=0->b.cs.getD (ae x) (false,0)=(true,((n:Nat):Int))
 flag:cg (s.getD (ae x) 0)=true->b.flags.getD (ae x) false=decide (¬n=0)
 there:s.getD (ae x) 0=2->¬n=0
 gone:s.getD (ae x) 0&&&2=0->n=0
theorem Oz {s:List Nat}{x:Nat×Nat}{n:Nat}{b:Br}{cs:List Nat}{is:List Item}{rs:List ab}(hb:eZ (n::cs) b.yd)(hf:NX R s b x n)(hL:Laid R.blocks (cR (s.getD (ae x) 0) x++is) rs):
  ∃m rs',m<=3/\cS R room m rs b rs' {b with yd:=if n=0 then b.yd else b.yd.free n}/\Laid R.blocks is rs':=by
 unfold cR at hL;have Tn:¬n=0->(b.yd.at n).2=true:=fun h=>hb.qt (by omega) (jM ..)
 by_cases h1:cg (s.getD (ae x) 0)=true
 ·rw[jb h1]at hL;obtain⟨i,j,rfl,h2,h3⟩:=hL;have ht:=Ns (R:=R) (room:=room) b (ae x) i j;rw[hf.flag h1]at ht;by_cases hn:n=0
  ·rw[ja (by simp[hn])]at ht;rw[jb hn];exact⟨1,_,by omega,.one ht,h3⟩
  ·rw[jb (by simp[hn]),h2]at ht;rw[ja hn];exact⟨3,_,by omega,.step ht (.step (B0 _ hf.tag (hf.cell hn) (Tn hn)) (.one (B5 _ _))),h3⟩
 ·rw[ja h1]at hL;by_cases h2:s.getD (ae x) 0=2
  ·rw[jb h2]at hL;obtain⟨rs',rfl,h3⟩:=hL;have hn:=hf.there h2;rw[ja hn];exact⟨1,_,by omega,.one (B0 _ hf.tag (hf.cell hn) (Tn hn)),h3⟩
  ·rw[ja h2]at hL;have hn:n=0:=hf.gone (by
    unfold cg at h1;simp only[Bool.and_eq_true,Bool.not_eq_true',beq_eq_false_iff_ne,ne_eq,not_and,Decidable.not_not]at h1;exact Decidable.byContradiction fun h=>h2 (h1 h))
   rw[jb hn];exact⟨0,_,by omega,.refl _ _,hL⟩
theorem EO {s:List Nat}(f:Nat×Nat->Nat){cs:List Nat}{is:List Item}:∀(ps:List (Nat×Nat)) {b:Br} {rs:List ab},eZ (ps.map f++cs) b.yd->(∀x∈ps,NX R s b x (f x))->Laid R.blocks (aN s ps++is) rs->
  ∃m rs',m<=3*ps.length/\cS R room m rs b rs' {b with yd:=fJ (ps.map f) b.yd}/\Laid R.blocks is rs'
 |[],b,rs,_,_,hL=>⟨0,rs,by simp,.refl _ _,hL⟩
 |x::ps,b,rs,hb,hf,hL=>by
  have e:aN s (x::ps)++is=cR (s.getD (ae x) 0) x++(aN s ps++is):=by simp[aN]
  rw[e]at hL;obtain⟨m,rs1,h1,h2,h3⟩:=Oz (room:=room) (cs:=ps.map f++cs) hb (hf x (jM ..)) hL;have bH:eZ (ps.map f++cs) (if f x=0 then b.yd else b.yd.free (f x)):=by
   by_cases e:f x=0
   ·rw[jb e];exact eZ.congr hb fun n hn=>by rw[List.map_cons,jW,List.count_cons,e,ja (by simp;omega)];rfl
   ·rw[ja e];exact eZ.free hb (by omega)
  obtain⟨m',rs2,g1,g2,g3⟩:=EO f ps (b:={b with yd:=if f x=0 then b.yd else b.yd.free (f x)}) bH (fun y hy=>by
   have:=hf y (jN _ hy);exact⟨this.tag,this.cell,this.flag,this.there,this.gone⟩) h3
  refine⟨m+m',rs2,by simp only[List.length_cons];omega,h2.trans ?_,g3⟩;exact g2
end
end El
end Go.Proofs.YtmlgajhhnojdjaaGreatDoor

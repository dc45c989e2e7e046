import Derived.Test.YtmlgajhhnojdjaaGreatDoorRAH
namespace Go.Proofs.YtmlgajhhnojdjaaGreatDoor
namespace PrjP
open Go Go.RowKit Sq Aux PrjF PrjG PrjH PrjI PrjJ PrjK PrjL PrjM PrjN PrjO
def gz (w:World)(b:Nat)(l:ab)(vp vn:Value):Prop:=
 w.heap[b]?=some (.cells #[.int .i64 (l.num:Nat),.int .i64 (l.op:Nat),vp,.int .i64 l.number,.int .i64 l.flag,vn] 115 (0,0))
section
variable {w w':World} {b:Nat} {l:ab} {vp vn:Value}
theorem gz.below {z:Nat}(h:gz w b l vp vn)(hb:Below z w w')(hz:b<z):gz w' b l vp vn:=by
 unfold gz;rw[hb.block b hz];exact h
theorem gz.facts (h:gz w b l vp vn):w.cell? ⟨b,0,none⟩=some (.int .i64 (l.num:Nat))/\w.cell? ⟨b,1,none⟩=some (.int .i64 (l.op:Nat))/\w.cell? ⟨b,2,none⟩=some vp/\w.cell? ⟨b,3,none⟩=some (.int .i64 l.number)/\w.cell? ⟨b,4,none⟩=some (.int .i64 l.flag)/\w.cell? ⟨b,5,none⟩=some vn/\∀o,w.frozen? ⟨b,o,none⟩=false:=by
 unfold gz at h;refine⟨?_,?_,?_,?_,?_,?_,frozen_of_heap h⟩<;>(rw[cell_of_heap h];rfl)
theorem gz.number (h:gz w b l vp vn)(n:Int):gz (w.setCell ⟨b,3,none⟩ (.int .i64 n)) b {l with number:=n} vp vn:=by
 unfold gz at h⊢;rw[Go.Proofs.YtmlgajhhnojdjaaGreatDoor.Aux.heap_setCell_same h 3];rfl
theorem gz.flag (h:gz w b l vp vn)(n:Int):gz (w.setCell ⟨b,4,none⟩ (.int .i64 n)) b {l with flag:=n} vp vn:=by
 unfold gz at h⊢;rw[Go.Proofs.YtmlgajhhnojdjaaGreatDoor.Aux.heap_setCell_same h 4];rfl
theorem gz.places (h:gz w b l vp vn)(v:Value)(ps:List (Nat×Nat)):gz (w.setCell ⟨b,2,none⟩ v) b {l with places:=ps} v vn:=by
 unfold gz at h⊢;rw[Go.Proofs.YtmlgajhhnojdjaaGreatDoor.Aux.heap_setCell_same h 2];rfl
theorem gz.next (h:gz w b l vp vn)(v:Value)(ns:List Nat):gz (w.setCell ⟨b,5,none⟩ v) b {l with next:=ns} vp v:=by
 unfold gz at h⊢;rw[Go.Proofs.YtmlgajhhnojdjaaGreatDoor.Aux.heap_setCell_same h 5];rfl
theorem bq.qb {z:Nat}(h:bq z w l vp vn)(hb:bw b w w'){cs:Array Value}{f:Nat×Nat}(hl:w.heap[b]?=some (.cells cs 115 f)):bq z w' l vp vn:=
 h.df fun he hv=>gi hv fun g hg=>hb.block g (hv.lt g hg).2 fun x=>by
  subst x;rcases he with rfl|rfl
  ·exact au hv hl (by decide) hg
  ·exact au hv hl (by decide) hg
end
theorem ca {w:World}{z:Nat}{e:TypeId}{s:Nat}{v:Value}{n:Nat}{xs:List Value}(h:w.ownsRow z e s v n xs):∃ad c,v=.slice ad n c:=by
 rcases h.2 with⟨rfl,rfl⟩|⟨g,cap,cur,rfl,-⟩
 ·exact⟨none,0,rfl⟩
 ·exact⟨_,_,rfl⟩
def fU (z:Nat)(ls:List (B×Nat))(nb:Nat)(x:Nat×List B)(w:World)(e:Ending)(w':World):Prop:=
 Below w.heap.size w w'/\match ez ls nb x with
  |none=>e=.returned (.tuple #[.agg #[.int .i64 0,.int .i64 0,.slice none 0 0,.int .i64 0,.int .i64 0,.slice none 0 0],.bool false])
  |some l=>∃vp vn,e=.returned (.tuple #[.agg #[.int .i64 (l.num:Nat),.int .i64 (l.op:Nat),vp,.int .i64 l.number,.int .i64 l.flag,vn],.bool true])/\bq z w' l vp vn
theorem Ky:(Tryz.prog.info? 119).map (fun i=>(i.zero,i.size,i.bytes))=some (some (.agg #[.int .i64 0,.int .i64 0]),2,16):=by kernel_rfl
theorem A3:(Tryz.prog.info? 3).map (fun i=>(i.zero,i.size,i.bytes))=some (some (.int .i64 0),1,8):=by kernel_rfl
theorem H4 (ls:List (B×Nat))(nb:Nat)(f:B)(ws:List B)(k:Nat)(hk:k<f.length)(l:ab):cZ ls nb (f.drop k) (ws.drop k) l=
  if((f[k].toNat:Int)==35)=true\/((f[k].toNat:Int)==118)=true then cZ ls nb (f.drop (k+1)) (ws.drop (k+1)) {l with number:=(dP (word ws k)).getD 0}
  else if((f[k].toNat:Int)==102)=true then cZ ls nb (f.drop (k+1)) (ws.drop (k+1)) {l with flag:=(aA (word ws k)).getD 0}
  else if((f[k].toNat:Int)==98)=true then
   (if((aA (word ws k)).getD 0)≥nb then none else cZ ls nb (f.drop (k+1)) (ws.drop (k+1)) {l with next:=l.next++[((aA (word ws k)).getD 0).toNat]})
  else
   (if dF ls ((bS (word ws k)).getD ([],0)).1<0 then none
    else cZ ls nb (f.drop (k+1)) (ws.drop (k+1)) {l with places:=l.places++[((dF ls ((bS (word ws k)).getD ([],0)).1).toNat,((bS (word ws k)).getD ([],0)).2)]}):=by
 have e:∀n:Nat,n<256->(((f[k].toNat:Int)==(n:Int))=true↔f[k]=UInt8.ofNat n):=fun n hn=>by
  rw[kW f[k] n hn,beq_iff_eq];omega
 have e1:=e 35 (by omega);have e2:=e 118 (by omega);have e3:=e 102 (by omega);have e4:=e 98 (by omega);simp only[Int.cast_ofNat_Int]at e1 e2 e3 e4;have hw:word (ws.drop k) 0=word ws k:=by simp[word]
 simp only[e1,e2,e3,e4];rw[jE hk,cZ,hw,List.drop_drop];rfl
theorem PI {w:World}{b:Nat}{l:ab}{vp vn:Value}(r:gz w b l vp vn)(a0 a1 a2 a3 a4 a5:Value):
  ((((((w.setCell ⟨b,0,none⟩ a0).setCell ⟨b,1,none⟩ a1).setCell ⟨b,2,none⟩ a2).setCell ⟨b,3,none⟩ a3).setCell ⟨b,4,none⟩ a4).setCell ⟨b,5,none⟩ a5).rangeAt b 0 [a0,a1,a2,a3,a4,a5]:=by
 unfold gz at r;have h1:=Go.Proofs.YtmlgajhhnojdjaaGreatDoor.Aux.heap_setCell_same r 0 a0;have h2:=Go.Proofs.YtmlgajhhnojdjaaGreatDoor.Aux.heap_setCell_same h1 1 a1;have h3:=Go.Proofs.YtmlgajhhnojdjaaGreatDoor.Aux.heap_setCell_same h2 2 a2;have h4:=Go.Proofs.YtmlgajhhnojdjaaGreatDoor.Aux.heap_setCell_same h3 3 a3;have h5:=Go.Proofs.YtmlgajhhnojdjaaGreatDoor.Aux.heap_setCell_same h4 4 a4;have h6:=Go.Proofs.YtmlgajhhnojdjaaGreatDoor.Aux.heap_setCell_same h5 5 a5;intro j v hv;rw[cell_of_heap h6]
 match j,hv with
 |0,hv=>simpa using hv
 |1,hv=>simpa using hv
 |2,hv=>simpa using hv
 |3,hv=>simpa using hv
 |4,hv=>simpa using hv
 |5,hv=>simpa using hv
theorem On:(Tryz.prog.info? 115).map (·.size)=some 6:=by kernel_rfl
theorem Bf {z nb:Nat}{ls:List (B×Nat)}{x:Nat×List B}{w w2:World}{tmps:Array Value}{a0 a1 a2 a3 a4 a5:Value}{bl:Bool}{b:Nat}{l:ab}{vp vn:Value}(h6:tmps.getD 6 undef=.pointer (some ⟨b,0,none⟩))(h7:tmps.getD 7 undef=.bool bl)(r:gz w2 b l vp vn)
  (P:∀w3,bw b w2 w3->fU z ls nb x w (.returned (.tuple #[.agg #[a0,a1,a2,a3,a4,a5],.bool bl])) w3):
  bodyPost Tryz.prog Tryz.f170 (fU z ls nb x w) Exit.ret {tmps:=tmps,defers:=[]} ((((((w2.setCell ⟨b,0,none⟩ a0).setCell ⟨b,1,none⟩ a1).setCell ⟨b,2,none⟩ a2).setCell ⟨b,3,none⟩ a3).setCell ⟨b,4,none⟩ a4).setCell ⟨b,5,none⟩ a5):=by
 refine bodyPost_ret (eG Tryz.results170 tmps _ _ b [a0,a1,a2,a3,a4,a5] _ h6 (PI r a0 a1 a2 a3 a4 a5) Tryz.underlying115 rfl On) rfl ?_;rw[h7];exact P _ ((((((((bw.refl b w2).setCell 0 a0).setCell 1 a1).setCell 2 a2).setCell 3 a3).setCell 4 a4).setCell 5 a5))
theorem Pb {m n:Int}:∀u'∈[Value.int .i64 m,Value.int .i64 n],u'.oneCell'=true:=by
 intro u' hu;simp at hu;rcases hu with rfl|rfl<;>rfl
structure iR (ls:List (B×Nat))(nb op gw ow cw:Nat)(ws:List B)(w wr:World)(k:Nat)(l:ab)(vp vn:Value):Prop where
 ln:gz wr (w.heap.size+1) l vp vn
 at_:bq w.heap.size wr l vp vn
 eM:wr.heap[w.heap.size]?=some (.cells #[.int .i64 (op:Nat),.slice (some ⟨gw,ow,none⟩) (ag op).length cw] 240 (0,0))
 br:Below w.heap.size w wr
 fe:l.places.length<=k/\l.next.length<=k
 same:ez ls nb (op,ws)=cZ ls nb ((ag op).drop k) (ws.drop k) l
section
variable {ls:List (B×Nat)} {nb op gw ow cw:Nat} {ws:List B} {w wr w1 w2 w3:World} {k:Nat} {l:ab} {vp vn:Value}
theorem iR.on (h:iR ls nb op gw ow cw ws w wr k l vp vn)(hb:Below wr.heap.size wr w1):iR ls nb op gw ow cw ws w w1 k l vp vn:=
 ⟨h.ln.below hb (lt_of_heap h.ln),h.at_.below hb,by rw[hb.block _ (lt_of_heap h.eM)];exact h.eM,h.br.trans (hb.mono h.br.size),h.fe,h.same⟩
theorem iR.BY (h:iR ls nb op gw ow cw ws w wr k l vp vn)(hb:bw (w.heap.size+1) wr w1):bq w.heap.size w1 l vp vn/\w1.heap[w.heap.size]?=some (.cells #[.int .i64 (op:Nat),.slice (some ⟨gw,ow,none⟩) (ag op).length cw] 240 (0,0))/\Below w.heap.size w w1:=
 ⟨bq.qb h.at_ hb h.ln,by rw[hb.block _ (lt_of_heap h.eM) (by omega)];exact h.eM,h.br.trans (hb.below (by omega) h.br.size)⟩
theorem iR.next (h:iR ls nb op gw ow cw ws w w1 k l vp vn)(m:Nat){v':Value}(h2:Below w1.heap.size w1 w2)(js:w3.ownsRow w.heap.size 3 1 v' (l.next.length+1) (dH l.next++[.int .i64 (m:Nat)]))(hg:w2.grownBy w3 vn.ownBlock)
  (hs:ez ls nb (op,ws)=cZ ls nb ((ag op).drop (k+1)) (ws.drop (k+1)) {l with next:=l.next++[m]}):iR ls nb op gw ow cw ws w (w3.setCell ⟨w.heap.size+1,5,none⟩ v') (k+1) {l with next:=l.next++[m]} vp v':=by
 have H:=h.on h2;have df:∀(g:Nat) (cs:Array Value) (e:TypeId) (f:Nat×Nat),w2.heap[g]?=some (.cells cs e f)->3≠e->w3.heap[g]?=w2.heap[g]?:=fun g cs e f yT he=>hg.block g (lt_of_heap yT) (bj H.at_.next yT he)
 have Kl:gz w3 (w.heap.size+1) l vp vn:=by unfold gz;rw[df _ _ _ _ H.ln (by decide)];exact H.ln
 have XX:w3.heap[w.heap.size]?=_:=(df _ _ _ _ H.eM (by decide)).trans H.eM;have lJ:Below w.heap.size w w3:=by
  refine H.br.grown hg H.br.size fun k hk=> ?_
  exact(H.at_.next.lt k hk).1
 refine⟨Kl.next v' (l.next++[m]),⟨?_,?_⟩,?_,lJ.trans (((bw.refl _ w3).setCell 5 v').below (by omega) lJ.size),⟨by have:=h.fe;simp;omega,by have:=h.fe;simp;omega⟩,hs⟩
 ·exact av (H.at_.places.kept hg (da H.at_.places H.at_.next (by decide))) _ (au (H.at_.places.kept hg (da H.at_.places H.at_.next (by decide))) Kl (by decide))
 ·have:=av js (a:=⟨w.heap.size+1,5,none⟩) v' (au js Kl (by decide));simpa [dH]using this
 ·rw[Below.heap_setCell _ _ _ _ (by show w.heap.size≠w.heap.size+1;omega)];exact XX
theorem iR.place (h:iR ls nb op gw ow cw ws w w1 k l vp vn)(x:Nat×Nat){v':Value}(h2:Below w1.heap.size w1 w2)(js:w3.ownsRow w.heap.size 119 2 v' (l.places.length+1) (bL l.places++[.int .i64 (x.1:Nat),.int .i64 (x.2:Nat)]))(hg:w2.grownBy w3 vp.ownBlock)
  (hs:ez ls nb (op,ws)=cZ ls nb ((ag op).drop (k+1)) (ws.drop (k+1)) {l with places:=l.places++[x]}):iR ls nb op gw ow cw ws w (w3.setCell ⟨w.heap.size+1,2,none⟩ v') (k+1) {l with places:=l.places++[x]} v' vn:=by
 have H:=h.on h2;have df:∀(g:Nat) (cs:Array Value) (e:TypeId) (f:Nat×Nat),w2.heap[g]?=some (.cells cs e f)->119≠e->w3.heap[g]?=w2.heap[g]?:=fun g cs e f yT he=>hg.block g (lt_of_heap yT) (bj H.at_.places yT he)
 have Kl:gz w3 (w.heap.size+1) l vp vn:=by unfold gz;rw[df _ _ _ _ H.ln (by decide)];exact H.ln
 have XX:w3.heap[w.heap.size]?=_:=(df _ _ _ _ H.eM (by decide)).trans H.eM;have lJ:Below w.heap.size w w3:=by
  refine H.br.grown hg H.br.size fun k hk=> ?_
  exact(H.at_.places.lt k hk).1
 refine⟨Kl.places v' (l.places++[x]),⟨?_,?_⟩,?_,lJ.trans (((bw.refl _ w3).setCell 2 v').below (by omega) lJ.size),⟨by have:=h.fe;simp;omega,by have:=h.fe;simp;omega⟩,hs⟩
 ·have:=av js (a:=⟨w.heap.size+1,2,none⟩) v' (au js Kl (by decide));simpa [bL,BE]using this
 ·exact av (H.at_.next.kept hg (da H.at_.next H.at_.places (by decide))) _ (au (H.at_.next.kept hg (da H.at_.next H.at_.places (by decide))) Kl (by decide))
 ·rw[Below.heap_setCell _ _ _ _ (by show w.heap.size≠w.heap.size+1;omega)];exact XX
end
theorem H5 {ls:List (B×Nat)}{nb op gw ow cw:Nat}{ws:List B}{w w1 w2 w3:World}{k:Nat}{l:ab}{vp vn:Value}(h:iR ls nb op gw ow cw ws w w1 k l vp vn)(h2:Below w1.heap.size w1 w2){vx:Value}{e:TypeId}{sz n:Nat}{xs:List Value}(hx:w2.ownsRow w.heap.size e sz vx n xs)(hg:w2.grownBy w3 vx.ownBlock)(he:e≠115):gz w3 (w.heap.size+1) l vp vn:=by
 have H:=h.on h2;unfold gz;rw[hg.block _ (lt_of_heap H.ln) (bj hx H.ln he)];exact H.ln
theorem fU.none {z nb:Nat}{ls:List (B×Nat)}{x:Nat×List B}{w w':World}(hb:Below w.heap.size w w')(h:ez ls nb x=none):fU z ls nb x w (.returned (.tuple #[.agg #[.int .i64 0,.int .i64 0,.slice none 0 0,.int .i64 0,.int .i64 0,.slice none 0 0],.bool false])) w':=by
 refine⟨hb,?_⟩;rw[h]
theorem fU.some {z nb:Nat}{ls:List (B×Nat)}{x:Nat×List B}{w w':World}{l:ab}{vp vn:Value}(hb:Below w.heap.size w w')(h:ez ls nb x=some l)(hl:bq z w' l vp vn):fU z ls nb x w (.returned (.tuple #[.agg #[.int .i64 (l.num:Nat),.int .i64 (l.op:Nat),vp,.int .i64 l.number,.int .i64 l.flag,vn],.bool true])) w':=by
 refine⟨hb,?_⟩;rw[h];exact⟨vp,vn,rfl,hl⟩
set_option maxRecDepth 20000 in
set_option maxHeartbeats 4000000 in
theorem Li (ls:List (B×Nat))(nb op a gw ow cw:Nat)(ws:List B)(v u:Value)(w:World)(hp:w.heap[a]?=some (.cells #[v,u] 110 (0,0)))(hv:mc w v ls)(ie:ls.length<=4000)(_hnb:nb<=4000)(ax:op<23)(hws:ws.length=(ag op).length)(_hcw:(ag op).length<=cw)
  (US:gw<w.heap.size) (hW:∀j,j<(ag op).length->w.cell? ⟨gw,ow+j,none⟩=some (.string (bs (word ws j)))) (hlen:∀j,(word ws j).length<=1048576) (E:Env w):
  Calls Tryz.prog 170 #[.pointer (some ⟨a,0,none⟩),.agg #[.int .i64 (op:Nat),.slice (some ⟨gw,ow,none⟩) (ag op).length cw],.int .i64 (nb:Nat)] w (fU w.heap.size ls nb (op,ws) w):=by
 obtain⟨ip,hip,hp0,B9,Wq⟩:=info_parts Ky;obtain⟨ii,hii,Z3,xT,hi2⟩:=info_parts A3;have Vb:=yu op ax;have HW:Hid (ws.length=(ag op).length):=hws;clear hws;have ir:iR ls nb op gw ow cw ws w ((w.alloc (.cells #[.int .i64 (op:Nat),.slice (some ⟨gw,ow,none⟩) (ag op).length cw] 240)).alloc (.cells #[.int .i64 0,.int .i64 (op:Nat),.slice none 0 0,.int .i64 0,.int .i64 0,.slice none 0 0] 115)) 0 ⟨0,op,[],0,0,[]⟩ (.slice none 0 0) (.slice none 0 0):=by
  refine⟨?_,⟨World.ownsRow_nil _ _ _ _,World.ownsRow_nil _ _ _ _⟩,?_,((Below.refl _ _).alloc (jC _) _).alloc (by simp) _,⟨jC _,jC _⟩,rfl⟩
  ·unfold gz;rw[show w.heap.size+1=(w.alloc (.cells #[.int .i64 (op:Nat),.slice (some ⟨gw,ow,none⟩) (ag op).length cw] 240)).heap.size by simp];exact jD
  ·rw[((Below.refl (w.heap.size+1) _).alloc (by simp) _).block w.heap.size (by omega)];exact jD
 go_enter Tryz.func170,Tryz.ntmps170
 go_wp2
 go_loopw [22] (fun i wr=>∃(k:Nat) (l:ab) (vp vn:Value),k<=(ag op).length/\i=.int .i64 k/\iR ls nb op gw ow cw ws w wr k l vp vn) (fun i _=>(ag op).length-(intOf i).toNat)
 case atStart=>exact⟨0,_,_,_,jQ _,rfl,ir⟩
 case round=>
  obtain⟨k,l,vp,vn,hk,rfl,H⟩:=hrel;clear ir;obtain⟨c0,c1,c2,c3,c4,c5,hf⟩:=H.ln.facts;by_cases aL:k<(ag op).length
  ·have TX:wr.cell? ⟨gw,ow+k,none⟩=some (.string (bs (word ws k))):=(H.br.cell (p:=⟨gw,ow+k,none⟩) US).trans (hW k aL);have Ol:wr.cell? ⟨w.heap.size,0,none⟩=some (.int .i64 (op:Nat)):=by rw[cell_of_heap H.eM];rfl
   have Cs:=pY (E.on H.br) op ax;have E1:=E.on H.br;have hlw:=hlen k;have HS:Hid (_=_):=H.same.trans (H4 ls nb (ag op) ws k aL l);by_cases h1:(((ag op)[k].toNat:Int)==35)=true\/(((ag op)[k].toNat:Int)==118)=true
   ·have HN:Hid (_=_):=HS.out.trans (jb h1);have TO:=SP h1;clear h1 HS;have KN:=vT (word ws k) wr (by omega) E1;rcases TO with h1|⟨h1,h2⟩
    all_goals
     go_wp2_with (go_at_call 203;refine KN.mono ?_;rintro e w1 ⟨rfl,aw⟩;have H1:=H.on aw;obtain⟨d0,d1,d2,d3,d4,d5,hd⟩:=H1.ln.facts;have g3:=hd 3)
     go_roundw
     case rel=>
      obtain⟨t1,t2,t3⟩:=H1.BY ((bw.refl _ _).setCell 3 (.int .i64 ((dP (word ws k)).getD 0)));exact⟨k+1,{l with number:=(dP (word ws k)).getD 0},vp,vn,by omega,by go_num,H1.ln.number _,⟨t1.places,t1.next⟩,t2,t3,⟨Nat.le_succ_of_le H.fe.1,Nat.le_succ_of_le H.fe.2⟩,HN.out⟩
     case measure=>simp[intOf];omega
   ·have HN:Hid (_=_):=HS.out.trans (ja h1);simp only[not_or,Bool.not_eq_true]at h1;obtain⟨b1,b2⟩:=h1;clear HS;by_cases h2:(((ag op)[k].toNat:Int)==102)=true
    ·have Yw:Hid (_=_):=HN.out.trans (jb h2);clear HN;have KN:=AK (word ws k) wr (by omega) E1;go_wp2_with (go_at_call 204;refine KN.mono ?_;rintro e w1 ⟨rfl,aw⟩;have H1:=H.on aw;obtain⟨d0,d1,d2,d3,d4,d5,hd⟩:=H1.ln.facts;have g4:=hd 4)
     go_roundw
     case rel=>
      obtain⟨t1,t2,t3⟩:=H1.BY ((bw.refl _ _).setCell 4 (.int .i64 ((aA (word ws k)).getD 0)));exact⟨k+1,{l with flag:=(aA (word ws k)).getD 0},vp,vn,by omega,by go_num,H1.ln.flag _,⟨t1.places,t1.next⟩,t2,t3,⟨Nat.le_succ_of_le H.fe.1,Nat.le_succ_of_le H.fe.2⟩,Yw.out⟩
     case measure=>simp[intOf];omega
    ·have Yw:Hid (_=_):=HN.out.trans (ja h2);rw[Bool.not_eq_true]at h2;clear HN;by_cases h3:(((ag op)[k].toNat:Int)==98)=true
     ·have Uc:Hid (_=_):=Yw.out.trans (jb h3);clear Yw;obtain⟨n1,n2⟩:=fX (word ws k);have KN:=yG (word ws k) wr (by omega) E1;obtain⟨m,hm⟩:∃m:Nat,(aA (word ws k)).getD 0=(m:Int):=⟨((aA (word ws k)).getD 0).toNat,by omega⟩;by_cases ZX:(m:Int)≥nb
      ·have hx:ez ls nb (op,ws)=none:=Uc.out.trans (jb (by rw[hm];exact ZX));rw[hm]at KN;clear Uc hm n1 n2;go_wp2_with (go_at_call 205;refine KN.mono ?_;rintro e w1 ⟨rfl,aw⟩;have H1:=H.on aw;obtain⟨d0,d1,d2,d3,d4,d5,hd⟩:=H1.ln.facts;have g0:=hd 0;have g1:=hd 1;have g2:=hd 2;have g3:=hd 3;have g4:=hd 4;have g5:=hd 5)
       refine Bf rfl rfl H1.ln fun w3 hT=> ?_
       obtain⟨t1,t2,t3⟩:=H1.BY hT;exact fU.none t3 hx
      ·have hx:Hid (ez ls nb (op,ws)=cZ ls nb ((ag op).drop (k+1)) (ws.drop (k+1)) {l with next:=l.next++[m]}):=by
        unfold Hid;rw[Uc.out,ja (by rw[hm];exact ZX),hm,Int.toNat_natCast]
       rw[hm]at KN;rw[hm]at n2;have xR:=H.fe;clear Uc hm n1;go_wp2_with (first
        |(go_at_call 205;refine KN.mono ?_;rintro e w1 ⟨rfl,aw⟩;have H1:=H.on aw;obtain⟨d0,d1,d2,d3,d4,d5,hd⟩:=H1.ln.facts;have g5:=hd 5;have aY:Below w1.heap.size w1 (w1.alloc (.cells #[.int .i64 (m:Nat)] 3)):=(Below.refl _ _).alloc (jC _) _)
        |(at_builtin;go_must (refine qD rfl _ _ 113 rfl w.heap.size 3 ii (.int .i64 0) 8 Tryz.underlying113 hii Z3 xT hi2 rfl vn _ _ rfl H1.at_.next _ rfl rfl (by decide) (by omega) H1.br.size ?_);intro g2 c2' w2 hown2 hgrow2 hat2 hlt2;have Dh:=H5 H1 aY (ay H1.at_.next aY) hgrow2 (by decide);obtain⟨e0,e1,e2,e3,e4,e5,he⟩:=Dh.facts;have g5':=he 5))
       go_roundw
       case rel=>exact⟨k+1,{l with next:=l.next++[m]},vp,_,by omega,by go_num,H1.next m aY hown2 hgrow2 hx.out⟩
       case measure=>simp[intOf];omega
     ·have Uc:Hid (_=_):=Yw.out.trans (ja h3);rw[Bool.not_eq_true]at h3;clear Yw;have KN:=rz (word ws k) wr hlw E1;generalize ((bS (word ws k)).getD ([],0)).1=nm at*;generalize ((bS (word ws k)).getD ([],0)).2=pt at*;have XR:∀w',Below wr.heap.size wr w'->w'.heap[a]?=some (.cells #[v,u] 110 (0,0)):=fun w' hb=>by
       have aab:=lt_of_heap hp;rw[hb.block a (jK aab H.br.size),H.br.block a aab];exact hp
      have KF:=fun w' (hb:Below wr.heap.size wr w')=>mi ls v u nm a w' (XR w' hb) ((hv.below H.br).below hb) ie
      have Kr:=td ls nm 0;change-1<=dF ls nm/\dF ls nm<_ at Kr;by_cases hneg:dF ls nm<0
      ·have hx:ez ls nb (op,ws)=none:=Uc.out.trans (jb hneg);generalize dF ls nm=q at*;clear Uc Kr;go_wp2_with (first
        |(go_at_call 206;refine KN.mono ?_;rintro e w1 ⟨rfl,aw⟩)
        |(go_at_call 168;refine(KF _ aw).mono ?_;rintro e w2 ⟨rfl,bU⟩;have H1:=(H.on aw).on bU;obtain⟨d0,d1,d2,d3,d4,d5,hd⟩:=H1.ln.facts;have g0:=hd 0;have g1:=hd 1;have g2:=hd 2;have g3:=hd 3;have g4:=hd 4;have g5:=hd 5))
       refine Bf rfl rfl H1.ln fun w3 hT=> ?_
       obtain⟨t1,t2,t3⟩:=H1.BY hT;exact fU.none t3 hx
      ·obtain⟨m,hm⟩:∃m:Nat,dF ls nm=(m:Int):=⟨(dF ls nm).toNat,by omega⟩;have hx:Hid (ez ls nb (op,ws)=cZ ls nb ((ag op).drop (k+1)) (ws.drop (k+1)) {l with places:=l.places++[(m,pt)]}):=by
        unfold Hid;rw[Uc.out,ja hneg,hm,Int.toNat_natCast]
       rw[hm]at KF Kr;have xR:=H.fe;clear Uc hm hneg;go_wp2_with (first
        |(go_at_call 206;refine KN.mono ?_;rintro e w1 ⟨rfl,aw⟩)
        |(go_at_call 168;refine(KF _ aw).mono ?_;rintro e w2 ⟨rfl,bU⟩;have H1:=(H.on aw).on bU;obtain⟨d0,d1,d2,d3,d4,d5,hd⟩:=H1.ln.facts;have g2:=hd 2;have aY:Below w2.heap.size w2 (w2.alloc (.cells #[.int .i64 (m:Nat),.int .i64 (pt:Nat)] 119)):=(Below.refl _ _).alloc (jC _) _;have qu:w.heap.size<=(w2.alloc (.cells #[.int .i64 (m:Nat),.int .i64 (pt:Nat)] 119)).heap.size:=jS H1.br.size aY.size)
        |(at_builtin;go_must (refine kh rfl _ _ 112 rfl w.heap.size 119 ip (.agg #[.int .i64 0,.int .i64 0]) 2 16 Tryz.underlying112 hip hp0 B9 Wq rfl (by decide) vp _ _ rfl (ay H1.at_.places aY) w2.heap.size [.int .i64 (m:Nat),.int .i64 (pt:Nat)] rfl jD rfl Pb (by decide) (by omega) qu ?_);intro g3 c3' w3 hown3 hgrow3 hat3 hlt3;have Dh:=H5 H1 aY (ay H1.at_.places aY) hgrow3 (by decide);obtain⟨e0,e1,e2,e3,e4,e5,he⟩:=Dh.facts;have g2':=he 2))
       go_roundw
       case rel=>exact⟨k+1,{l with places:=l.places++[(m,pt)]},_,vn,by omega,by go_num,H1.place (m,pt) aY hown3 hgrow3 hx.out⟩
       case measure=>simp[intOf];omega
  ·have hx:ez ls nb (op,ws)=some l:=by rw[H.same,jT (by omega)];rfl
   obtain⟨ap,cp,rfl⟩:=ca H.at_.places;obtain⟨an,cn,rfl⟩:=ca H.at_.next;have f0:=hf 0;have f1:=hf 1;have f2:=hf 2;have f3:=hf 3;have f4:=hf 4;have f5:=hf 5;clear hf;go_wp2
   refine Bf rfl rfl H.ln fun w3 hT=> ?_
   obtain⟨t1,t2,t3⟩:=H.BY hT;exact fU.some t3 hx t1
end PrjP
namespace PrjR
open Go Go.RowKit Sq Aux PrjF PrjG PrjH PrjI PrjJ PrjK PrjL PrjM PrjN PrjO PrjP
theorem se {w:World}{v:Value}{ls:List (B×Nat)}(h:mc w v ls)(j:Nat)(hj:j<ls.length):∃g cap,v=.slice (some ⟨g,0,none⟩) ls.length cap/\ls.length<=cap/\g<w.heap.size/\w.cell? ⟨g,j*2,none⟩=some (.string (bs (ls.getD j ([],0)).1))/\w.cell? ⟨g,j*2+1,none⟩=some (.int .i64 ((ls.getD j ([],0)).2:Nat)):=by
 rcases Dm h with⟨rfl,-⟩|⟨g,cap,hv,hc,hg,aD⟩
 ·simp at hj
 ·exact⟨g,cap,hv,hc,hg,(aD j hj).1,(aD j hj).2⟩
theorem qY {q:QP}{x:Nat×Nat}{a:Nat}{b:Bool}(h1:q.bt x=a)(h2:(q.kind x).isSome=b):Ending.returned (.tuple #[.int .i64 (a:Nat),.bool b])=.returned (.tuple #[.int .i64 (q.bt x:Nat),.bool (q.kind x).isSome]):=by rw[h1,h2]
set_option maxRecDepth 20000 in
theorem vK (q:QP)(x:Nat×Nat)(v u:Value)(a:Nat)(w:World)(hp:w.heap[a]?=some (.cells #[v,u] 110 (0,0)))(hv:mc w v q.locals)(_hls:q.locals.length<=4000)(hx:x.1<q.locals.length):
  Calls Tryz.prog 207 #[.pointer (some ⟨a,0,none⟩),.agg #[.int .i64 (x.1:Nat),.int .i64 (x.2:Nat)]] w fun e w'=>e=.returned (.tuple #[.int .i64 (q.bt x:Nat),.bool (q.kind x).isSome])/\Below w.heap.size w w':=by
 obtain⟨g,cap,rfl,kM,hg,-,hc⟩:=se hv x.1 hx;have aL:=lt_of_heap hp;have aY:Below w.heap.size w (w.alloc (.cells #[.int .i64 (x.1:Nat),.int .i64 (x.2:Nat)] 119)):=(Below.refl _ _).alloc (jC _) _;have c0:w.cell? ⟨a,0,none⟩=some (.slice (some ⟨g,0,none⟩) q.locals.length cap):=by rw[cell_of_heap hp];rfl
 have c0A:(w.alloc (.cells #[.int .i64 (x.1:Nat),.int .i64 (x.2:Nat)] 119)).cell? ⟨a,0,none⟩=some (.slice (some ⟨g,0,none⟩) q.locals.length cap):=(aY.cell (p:=⟨a,0,none⟩) aL).trans c0;have c1A:=(aY.cell (p:=⟨g,x.1*2+1,none⟩) hg).trans hc;have c2A:(w.alloc (.cells #[.int .i64 (x.1:Nat),.int .i64 (x.2:Nat)] 119)).cell? ⟨w.heap.size,0,none⟩=some (.int .i64 (x.1:Nat)):=by simp
 have c3A:(w.alloc (.cells #[.int .i64 (x.1:Nat),.int .i64 (x.2:Nat)] 119)).cell? ⟨w.heap.size,1,none⟩=some (.int .i64 (x.2:Nat)):=by simp
 have hxi:(x.1:Int)<q.locals.length:=by omega
 have hT:Hid ((q.locals.getD x.1 ([],0)).2=q.bB x.1):=rfl;have hd:∀n,Below w.heap.size w ((w.alloc (.cells #[.int .i64 (x.1:Nat),.int .i64 (x.2:Nat)] 119)).drewN n):=fun n=>below_drewN aY n
 generalize (q.locals.getD x.1 ([],0)).2=t at*;by_cases cg:x.2=1\/x.2=2
 ·have b12:(((x.2:Nat):Int)==1)=true\/((((x.2:Nat):Int)==1)=false/\(((x.2:Nat):Int)==2)=true):=by
   rcases cg with h|h
   ·left;rw[h];rfl
   ·right;rw[h];exact⟨rfl,rfl⟩
  have hk:q.bt x=1:=by rw[QP.bt,jb (by omega)]
  have hs:(q.kind x).isSome=(t==2):=by
   rw[QP.kind,jb cg,<-hT.out];by_cases ht:t=2
   ·subst ht;rfl
   ·rw[ja ht];simp[ht]
  by_cases ht:t=2
  ·have htb:(((t:Nat):Int)==2)=true:=by rw[ht];rfl
   have Oj:(q.kind x).isSome=true:=by rw[hs,ht];rfl
   clear hs ht;rcases b12 with b1|⟨b1,b2⟩
   all_goals
    go_enter Tryz.func207,Tryz.ntmps207
    go_wp2
    go_quiet (fail)
    go_wp2
    go_ret2
    exact⟨qY hk Oj,hd nq⟩
  ·have htb:(((t:Nat):Int)==2)=false:=by rw[jZ];omega
   have Oj:(q.kind x).isSome=false:=by rw[hs];simp[ht]
   clear hs ht;rcases b12 with b1|⟨b1,b2⟩
   all_goals
    go_enter Tryz.func207,Tryz.ntmps207
    go_wp2
    go_quiet (fail)
    go_wp2
    go_ret2
    exact⟨qY hk Oj,hd nq⟩
 ·have b1:(((x.2:Nat):Int)==1)=false:=by rw[jZ];omega
  have b2:(((x.2:Nat):Int)==2)=false:=by rw[jZ];omega
  by_cases h3:x.2=3
  ·have b3:(((x.2:Nat):Int)==3)=true:=by rw[h3];rfl
   have hk:q.bt x=1:=by rw[QP.bt,jb (by omega)]
   have hs:(q.kind x).isSome=(t==3):=by
    rw[QP.kind,ja cg,jb h3,<-hT.out];by_cases ht:t=3
    ·subst ht;rfl
    ·rw[ja ht];simp[ht]
   by_cases ht:t=3
   ·have htb:(((t:Nat):Int)==3)=true:=by rw[ht];rfl
    have Oj:(q.kind x).isSome=true:=by rw[hs,ht];rfl
    clear hs ht h3 cg;go_enter Tryz.func207,Tryz.ntmps207
    go_wp2
    go_quiet (fail)
    go_wp2
    go_ret2
    exact⟨qY hk Oj,hd nq⟩
   ·have htb:(((t:Nat):Int)==3)=false:=by rw[jZ];omega
    have Oj:(q.kind x).isSome=false:=by rw[hs];simp[ht]
    clear hs ht h3 cg;go_enter Tryz.func207,Tryz.ntmps207
    go_wp2
    go_quiet (fail)
    go_wp2
    go_ret2
    exact⟨qY hk Oj,hd nq⟩
  ·have b3:(((x.2:Nat):Int)==3)=false:=by rw[jZ];omega
   have hk:q.bt x=t:=by rw[QP.bt,ja (by omega),hT.out]
   have hs:(q.kind x).isSome=true:=by rw[QP.kind,ja cg,ja h3];rfl
   clear h3 cg;go_enter Tryz.func207,Tryz.ntmps207
   go_wp2
   go_quiet (fail)
   go_wp2
   go_ret2
   exact⟨qY hk hs,hd nq⟩
theorem G4 (t:Nat)(c:UInt8):gF t c=if((c.toNat:Int)==105)=true then((t:Int)==0)else if((c.toNat:Int)==111)=true then((t:Int)==3)else if((c.toNat:Int)==112)=true then((t:Int)==1)else !((t:Int)==0):=by
 have e:∀n:Nat,n<256->(((c.toNat:Int)==(n:Int))=true↔c=UInt8.ofNat n):=fun n hn=>by
  rw[kW c n hn,beq_iff_eq];omega
 have e1:=e 105 (by omega);have e2:=e 111 (by omega);have e3:=e 112 (by omega);simp only[Int.cast_ofNat_Int]at e1 e2 e3;have f:∀m:Nat,((t:Int)==(m:Int))=(t==m):=fun m=>by rw[jX,beq_iff_eq,beq_iff_eq];omega
 have f0:=f 0;have f1:=f 1;have f3:=f 3;simp only[Int.cast_ofNat_Int]at f0 f1 f3;simp only[e1,e2,e3,f0,f1,f3];rfl
set_option maxRecDepth 20000 in
theorem K8 (t:Nat)(c:UInt8)(w:World):
  Calls Tryz.prog 208 #[.int .i64 (t:Nat),.int .u8 c.toNat] w fun e w'=>e=.returned (.bool (gF t c))/\w'=w:=by
 rw[G4];cases h1:((c.toNat:Int)==105)<;>cases h2:((c.toNat:Int)==111)<;>cases h3:((c.toNat:Int)==112)
 all_goals
  go_enter Tryz.func208,Tryz.ntmps208
  go_wp2
  go_ret
  exact⟨rfl,rfl⟩
set_option maxRecDepth 20000 in
set_option maxHeartbeats 1000000 in
theorem E7 (q:QP)(x y:Nat×Nat)(v u:Value)(a:Nat)(w:World)(hp:w.heap[a]?=some (.cells #[v,u] 110 (0,0)))(hv:mc w v q.locals)(ie:q.locals.length<=4000)(hx:x.1<q.locals.length)(hy:y.1<q.locals.length):
  Calls Tryz.prog 209 #[.pointer (some ⟨a,0,none⟩),.agg #[.int .i64 (x.1:Nat),.int .i64 (x.2:Nat)],.agg #[.int .i64 (y.1:Nat),.int .i64 (y.2:Nat)]] w fun e w'=>e=.returned (.bool (q.bt x==q.bt y))/\Below w.heap.size w w':=by
 have aY:Below w.heap.size w ((w.alloc (.cells #[.int .i64 (x.1:Nat),.int .i64 (x.2:Nat)] 119)).alloc (.cells #[.int .i64 (y.1:Nat),.int .i64 (y.2:Nat)] 119)):=((Below.refl _ _).alloc (jC _) _).alloc (by simp) _;have Ca:((w.alloc (.cells #[.int .i64 (x.1:Nat),.int .i64 (x.2:Nat)] 119)).alloc (.cells #[.int .i64 (y.1:Nat),.int .i64 (y.2:Nat)] 119)).heap.size=w.heap.size+2:=by simp
 have aL:=lt_of_heap hp;have KK:=fun(z:Nat×Nat) (hz:z.1<q.locals.length) (w':World) (hb:Below w.heap.size w w')=>vK q z v u a w' (by rw[hb.block a aL];exact hp) (hv.below hb) ie hz
 have d1:∀w',Below ((w.alloc (.cells #[.int .i64 (x.1:Nat),.int .i64 (x.2:Nat)] 119)).alloc (.cells #[.int .i64 (y.1:Nat),.int .i64 (y.2:Nat)] 119)).heap.size ((w.alloc (.cells #[.int .i64 (x.1:Nat),.int .i64 (x.2:Nat)] 119)).alloc (.cells #[.int .i64 (y.1:Nat),.int .i64 (y.2:Nat)] 119)) w'->w'.cell? ⟨w.heap.size+1,0,none⟩=some (.int .i64 (y.1:Nat))/\w'.cell? ⟨w.heap.size+1,1,none⟩=some (.int .i64 (y.2:Nat)):=fun w' hb=>
  ⟨(hb.cell (p:=⟨w.heap.size+1,0,none⟩) (by show w.heap.size+1<_;omega)).trans (by simp),(hb.cell (p:=⟨w.heap.size+1,1,none⟩) (by show w.heap.size+1<_;omega)).trans (by simp)⟩
 have KX:=KK x hx _ aY;have KY:=fun w' hb=>KK y hy w' hb
 rw[show(q.bt x==q.bt y)=(((q.bt x:Nat):Int)==((q.bt y:Nat):Int)) by rw[jX,beq_iff_eq,beq_iff_eq];omega];clear Ca KK;generalize q.bt x=kx at*;generalize q.bt y=ky at*;generalize (q.kind x).isSome=bx at*;generalize (q.kind y).isSome=by_ at*;go_enter Tryz.func209,Tryz.ntmps209
 go_wp2_with (first
  |(go_at_call 207;refine(KY _ lv).mono ?_;rintro e w2 ⟨rfl,bU⟩)
  |(go_at_call 207;refine KX.mono ?_;rintro e w1 ⟨rfl,aw⟩;have lv:=aY.trans (aw.mono aY.size);obtain⟨y0,y1⟩:=d1 _ aw))
 go_ret
 exact⟨rfl,lv.trans (bU.mono lv.size)⟩
end PrjR
namespace FlwA
open Go Go.RowKit Sq Aux PrjF PrjG PrjJ PrjK PrjL PrjM PrjN PrjO PrjP PrjR
def ah (x:Nat×Nat):Nat:=if x.2=2 then 2*x.1+1 else 2*x.1
def QP.ae (q:QP)(x:Nat×Nat):List (Nat×Nat):=if x.2=0/\q.bB x.1=2 then [(x.1,1),(x.1,2)]else [x]
theorem WJ {a b:Int}(h:a=b):Ending.returned (.int .i64 a)=.returned (.int .i64 b):=by rw[h]
set_option maxRecDepth 20000 in
theorem kU (x:Nat×Nat)(w:World)(hx:x.1<=4000):
  Calls Tryz.prog 62 #[.agg #[.int .i64 (x.1:Nat),.int .i64 (x.2:Nat)]] w fun e w'=>e=.returned (.int .i64 (ah x:Nat))/\Below w.heap.size w w':=by
 have aY:Below w.heap.size w (w.alloc (.cells #[.int .i64 (x.1:Nat),.int .i64 (x.2:Nat)] 119)):=(Below.refl _ _).alloc (jC _) _;by_cases h:x.2=2
 ·have hb:(((x.2:Nat):Int)==2)=true:=by rw[h];rfl
  have hs:ah x=2*x.1+1:=by rw[ah,jb h]
  rw[hs];clear h;go_enter Tryz.func62,Tryz.ntmps62
  go_wp2
  go_ret
  exact⟨WJ (by omega),aY⟩
 ·have hb:(((x.2:Nat):Int)==2)=false:=by rw[jZ];omega
  have hs:ah x=2*x.1:=by rw[ah,ja h]
  rw[hs];clear h;go_enter Tryz.func62,Tryz.ntmps62
  go_wp2
  go_ret
  exact⟨WJ (by omega),aY⟩
def bP (z:Nat)(w:World)(v:Value)(ps:List (Nat×Nat)):Prop:=w.ownsRow z 119 2 v ps.length (bL ps)
theorem mJ (w:World)(ps:List (Nat×Nat))(Qb:ps.length<=100):bP w.heap.size (w.alloc (.cells (bL ps).toArray 119)) (.slice (some ⟨w.heap.size,0,none⟩) ps.length ps.length) ps:=by
 have hl:(bL ps).length=ps.length*2:=Gm BE 2 (fun _=>rfl) ps;refine⟨hl,.inr ⟨w.heap.size,ps.length,(bL ps).toArray,rfl,jC _,jD,jC _,by unfold maxLen;omega,by simpa using hl,?_⟩⟩;rw[<-hl];simp
set_option maxRecDepth 20000 in
set_option maxHeartbeats 1000000 in
theorem ef (q:QP)(x:Nat×Nat)(v u:Value)(a:Nat)(w:World)(hp:w.heap[a]?=some (.cells #[v,u] 110 (0,0)))(hv:mc w v q.locals)(hx:x.1<q.locals.length):
  Calls Tryz.prog 102 #[.pointer (some ⟨a,0,none⟩),.agg #[.int .i64 (x.1:Nat),.int .i64 (x.2:Nat)]] w fun e w'=>∃g c,e=.returned (.slice (some ⟨g,0,none⟩) (QP.ae q x).length c)/\bP w.heap.size w' (.slice (some ⟨g,0,none⟩) (QP.ae q x).length c) (QP.ae q x)/\Below w.heap.size w w':=by
 obtain⟨g,cap,rfl,kM,hg,-,hc⟩:=se hv x.1 hx;have aL:=lt_of_heap hp;have aY:Below w.heap.size w (w.alloc (.cells #[.int .i64 (x.1:Nat),.int .i64 (x.2:Nat)] 119)):=(Below.refl _ _).alloc (jC _) _;have c0:w.cell? ⟨a,0,none⟩=some (.slice (some ⟨g,0,none⟩) q.locals.length cap):=by rw[cell_of_heap hp];rfl
 have c0A:(w.alloc (.cells #[.int .i64 (x.1:Nat),.int .i64 (x.2:Nat)] 119)).cell? ⟨a,0,none⟩=some (.slice (some ⟨g,0,none⟩) q.locals.length cap):=(aY.cell (p:=⟨a,0,none⟩) aL).trans c0;have c1A:=(aY.cell (p:=⟨g,x.1*2+1,none⟩) hg).trans hc;have c2A:(w.alloc (.cells #[.int .i64 (x.1:Nat),.int .i64 (x.2:Nat)] 119)).cell? ⟨w.heap.size,0,none⟩=some (.int .i64 (x.1:Nat)):=by simp
 have c3A:(w.alloc (.cells #[.int .i64 (x.1:Nat),.int .i64 (x.2:Nat)] 119)).cell? ⟨w.heap.size,1,none⟩=some (.int .i64 (x.2:Nat)):=by simp
 have hxi:(x.1:Int)<q.locals.length:=by omega
 have hT:Hid ((q.locals.getD x.1 ([],0)).2=q.bB x.1):=rfl;have ly:∀n,((w.alloc (.cells #[.int .i64 (x.1:Nat),.int .i64 (x.2:Nat)] 119)).drewN n).heap.size=w.heap.size+1:=fun n=>by simp
 have hd:∀n,Below w.heap.size w ((w.alloc (.cells #[.int .i64 (x.1:Nat),.int .i64 (x.2:Nat)] 119)).drewN n):=fun n=>below_drewN aY n
 generalize (q.locals.getD x.1 ([],0)).2=t at*;by_cases h0:x.2=0
 ·have b0:(((x.2:Nat):Int)==0)=true:=by rw[h0];rfl
  by_cases ht:t=2
  ·have htb:(((t:Nat):Int)==2)=true:=by rw[ht];rfl
   have hh:QP.ae q x=[(x.1,1),(x.1,2)]:=by rw[QP.ae,jb ⟨h0,by rw[<-hT.out];exact ht⟩]
   rw[hh];clear h0 ht;go_enter Tryz.func102,Tryz.ntmps102
   go_wp2
   go_quiet (fail)
   go_wp2
   go_ret
   have hn:=mJ ((w.alloc (.cells #[.int .i64 (x.1:Nat),.int .i64 (x.2:Nat)] 119)).drewN nq) [(x.1,1),(x.1,2)] (by simp);rw[ly nq]at hn;exact⟨w.heap.size+1,2,rfl,oY hn (by omega),(hd nq).alloc (hd nq).size _⟩
  ·have htb:(((t:Nat):Int)==2)=false:=by rw[jZ];omega
   have hh:QP.ae q x=[x]:=by rw[QP.ae,ja (fun e=>ht (by rw[hT.out];exact e.2))]
   rw[hh];clear h0 ht;go_enter Tryz.func102,Tryz.ntmps102
   go_wp2
   go_quiet (fail)
   go_wp2
   go_ret
   have hn:=mJ ((w.alloc (.cells #[.int .i64 (x.1:Nat),.int .i64 (x.2:Nat)] 119)).drewN nq) [x] (by simp);rw[ly nq]at hn;exact⟨w.heap.size+1,1,rfl,oY hn (by omega),(hd nq).alloc (hd nq).size _⟩
 ·have b0:(((x.2:Nat):Int)==0)=false:=by rw[jZ];omega
  have hh:QP.ae q x=[x]:=by rw[QP.ae,ja (fun e=>h0 e.1)]
  rw[hh];clear h0;go_enter Tryz.func102,Tryz.ntmps102
  go_wp2
  go_quiet (fail)
  go_wp2
  go_ret
  have hn:=mJ ((w.alloc (.cells #[.int .i64 (x.1:Nat),.int .i64 (x.2:Nat)] 119)).drewN nq) [x] (by simp);rw[ly nq]at hn;exact⟨w.heap.size+1,1,rfl,oY hn (by omega),(hd nq).alloc (hd nq).size _⟩
end FlwA
end Go.Proofs.YtmlgajhhnojdjaaGreatDoor

import Derived.Test.YtmlgajhhnojdjaaGreatDoorVAK
set_option maxHeartbeats 8000000
namespace Go.Proofs.YtmlgajhhnojdjaaGreatDoor
namespace PrjP
open Go Go.RowKit Sq Aux PrjF PrjG PrjH PrjI PrjJ PrjK PrjL PrjM PrjN PrjO
def dX (w:World)(b:Nat)(l:ab)(vp vn:Value):Prop:=
 w.heap[b]?=some (.cells #[.int .i64 (l.num:Nat),.int .i64 (l.op:Nat),vp,.int .i64 l.number,.int .i64 l.flag,vn] 115 (0,0))
section
variable {w w':World} {b:Nat} {l:ab} {vp vn:Value}
theorem dX.below {z:Nat}(h:dX w b l vp vn)(hb:Below z w w')(hz:b<z):dX w' b l vp vn:=by
 unfold dX;rw[hb.block b hz];exact h
theorem dX.facts (h:dX w b l vp vn):w.cell? ⟨b,0,none⟩=some (.int .i64 (l.num:Nat))/\w.cell? ⟨b,1,none⟩=some (.int .i64 (l.op:Nat))/\w.cell? ⟨b,2,none⟩=some vp/\w.cell? ⟨b,3,none⟩=some (.int .i64 l.number)/\w.cell? ⟨b,4,none⟩=some (.int .i64 l.flag)/\w.cell? ⟨b,5,none⟩=some vn/\∀o,w.frozen? ⟨b,o,none⟩=false:=by
 unfold dX at h;refine⟨?_,?_,?_,?_,?_,?_,frozen_of_heap h⟩<;>(rw[cell_of_heap h];rfl)
theorem dX.number (h:dX w b l vp vn)(n:Int):dX (w.setCell ⟨b,3,none⟩ (.int .i64 n)) b {l with number:=n} vp vn:=by
 unfold dX at h⊢;rw[Go.Proofs.YtmlgajhhnojdjaaGreatDoor.Aux.heap_setCell_same h 3];rfl
theorem dX.flag (h:dX w b l vp vn)(n:Int):dX (w.setCell ⟨b,4,none⟩ (.int .i64 n)) b {l with flag:=n} vp vn:=by
 unfold dX at h⊢;rw[Go.Proofs.YtmlgajhhnojdjaaGreatDoor.Aux.heap_setCell_same h 4];rfl
theorem dX.places (h:dX w b l vp vn)(v:Value)(ps:List (Nat×Nat)):dX (w.setCell ⟨b,2,none⟩ v) b {l with places:=ps} v vn:=by
 unfold dX at h⊢;rw[Go.Proofs.YtmlgajhhnojdjaaGreatDoor.Aux.heap_setCell_same h 2];rfl
theorem dX.next (h:dX w b l vp vn)(v:Value)(ns:List Nat):dX (w.setCell ⟨b,5,none⟩ v) b {l with next:=ns} vp v:=by
 unfold dX at h⊢;rw[Go.Proofs.YtmlgajhhnojdjaaGreatDoor.Aux.heap_setCell_same h 5];rfl
theorem aE.iF {z:Nat}(h:aE z w l vp vn)(hb:aW b w w'){cs:Array Value}{f:Nat×Nat}(hl:w.heap[b]?=some (.cells cs 115 f)):aE z w' l vp vn:=
 h.bE fun he hv=>dH hv fun g hg=>hb.block g (hv.lt g hg).2 fun x=>by
  subst x;rcases he with rfl|rfl
  ·exact az hv hl (by decide) hg
  ·exact az hv hl (by decide) hg
end
theorem a8 {w:World}{z:Nat}{e:TypeId}{s:Nat}{v:Value}{n:Nat}{xs:List Value}(h:w.ownsRow z e s v n xs):∃ad c,v=.slice ad n c:=by
 rcases h.2 with⟨rfl,rfl⟩|⟨g,cap,cur,rfl,-⟩
 ·exact⟨none,0,rfl⟩
 ·exact⟨_,_,rfl⟩
def dZ (z:Nat)(ls:List (B×Nat))(nb:Nat)(x:Nat×List B)(w:World)(e:Ending)(w':World):Prop:=
 Below w.heap.size w w'/\match cU ls nb x with
  |none=>e=.returned (.tuple #[.agg #[.int .i64 0,.int .i64 0,.slice none 0 0,.int .i64 0,.int .i64 0,.slice none 0 0],.bool false])
  |some l=>∃vp vn,e=.returned (.tuple #[.agg #[.int .i64 (l.num:Nat),.int .i64 (l.op:Nat),vp,.int .i64 l.number,.int .i64 l.flag,vn],.bool true])/\aE z w' l vp vn
theorem Cw:(Tryz.prog.info? 119).map (fun i=>(i.zero,i.size,i.bytes))=some (some (.agg #[.int .i64 0,.int .i64 0]),2,16):=by kernel_rfl
theorem Iu:(Tryz.prog.info? 3).map (fun i=>(i.zero,i.size,i.bytes))=some (some (.int .i64 0),1,8):=by kernel_rfl
theorem AM (ls:List (B×Nat))(nb:Nat)(f:B)(ws:List B)(k:Nat)(hk:k<f.length)(l:ab):bV ls nb (f.drop k) (ws.drop k) l=
  if((f[k].toNat:Int)==35)=true\/((f[k].toNat:Int)==118)=true then bV ls nb (f.drop (k+1)) (ws.drop (k+1)) {l with number:=(cI (word ws k)).getD 0}
  else if((f[k].toNat:Int)==102)=true then bV ls nb (f.drop (k+1)) (ws.drop (k+1)) {l with flag:=(av (word ws k)).getD 0}
  else if((f[k].toNat:Int)==98)=true then
   (if((av (word ws k)).getD 0)≥nb then none else bV ls nb (f.drop (k+1)) (ws.drop (k+1)) {l with next:=l.next++[((av (word ws k)).getD 0).toNat]})
  else
   (if cE ls ((bd (word ws k)).getD ([],0)).1<0 then none
    else bV ls nb (f.drop (k+1)) (ws.drop (k+1)) {l with places:=l.places++[((cE ls ((bd (word ws k)).getD ([],0)).1).toNat,((bd (word ws k)).getD ([],0)).2)]}):=by
 have e:∀n:Nat,n<256->(((f[k].toNat:Int)==(n:Int))=true↔f[k]=UInt8.ofNat n):=fun n hn=>by
  rw[rj f[k] n hn,beq_iff_eq];omega
 have e1:=e 35 (by omega);have e2:=e 118 (by omega);have e3:=e 102 (by omega);have e4:=e 98 (by omega);simp only[Int.cast_ofNat_Int]at e1 e2 e3 e4;have hw:word (ws.drop k) 0=word ws k:=by simp[word]
 simp only[e1,e2,e3,e4];rw[jE hk,bV,hw,List.drop_drop];rfl
theorem Gn {w:World}{b:Nat}{l:ab}{vp vn:Value}(r:dX w b l vp vn)(a0 a1 a2 a3 a4 a5:Value):
  ((((((w.setCell ⟨b,0,none⟩ a0).setCell ⟨b,1,none⟩ a1).setCell ⟨b,2,none⟩ a2).setCell ⟨b,3,none⟩ a3).setCell ⟨b,4,none⟩ a4).setCell ⟨b,5,none⟩ a5).rangeAt b 0 [a0,a1,a2,a3,a4,a5]:=by
 unfold dX at r;have h1:=Go.Proofs.YtmlgajhhnojdjaaGreatDoor.Aux.heap_setCell_same r 0 a0;have h2:=Go.Proofs.YtmlgajhhnojdjaaGreatDoor.Aux.heap_setCell_same h1 1 a1;have h3:=Go.Proofs.YtmlgajhhnojdjaaGreatDoor.Aux.heap_setCell_same h2 2 a2;have h4:=Go.Proofs.YtmlgajhhnojdjaaGreatDoor.Aux.heap_setCell_same h3 3 a3;have h5:=Go.Proofs.YtmlgajhhnojdjaaGreatDoor.Aux.heap_setCell_same h4 4 a4;have h6:=Go.Proofs.YtmlgajhhnojdjaaGreatDoor.Aux.heap_setCell_same h5 5 a5;intro j v hv;rw[cell_of_heap h6]
 match j,hv with
 |0,hv=>simpa using hv
 |1,hv=>simpa using hv
 |2,hv=>simpa using hv
 |3,hv=>simpa using hv
 |4,hv=>simpa using hv
 |5,hv=>simpa using hv
theorem Fb:(Tryz.prog.info? 115).map (·.size)=some 6:=by kernel_rfl
theorem tp {z nb:Nat}{ls:List (B×Nat)}{x:Nat×List B}{w w2:World}{tmps:Array Value}{a0 a1 a2 a3 a4 a5:Value}{bl:Bool}{b:Nat}{l:ab}{vp vn:Value}(h6:tmps.getD 6 undef=.pointer (some ⟨b,0,none⟩))(h7:tmps.getD 7 undef=.bool bl)(r:dX w2 b l vp vn)
  (P:∀w3,aW b w2 w3->dZ z ls nb x w (.returned (.tuple #[.agg #[a0,a1,a2,a3,a4,a5],.bool bl])) w3):
  bodyPost Tryz.prog Tryz.f170 (dZ z ls nb x w) Exit.ret {tmps:=tmps,defers:=[]} ((((((w2.setCell ⟨b,0,none⟩ a0).setCell ⟨b,1,none⟩ a1).setCell ⟨b,2,none⟩ a2).setCell ⟨b,3,none⟩ a3).setCell ⟨b,4,none⟩ a4).setCell ⟨b,5,none⟩ a5):=by
 refine bodyPost_ret (iU Tryz.results170 tmps _ _ b [a0,a1,a2,a3,a4,a5] _ h6 (Gn r a0 a1 a2 a3 a4 a5) Tryz.underlying115 rfl Fb) rfl ?_;rw[h7];exact P _ ((((((((aW.refl b w2).setCell 0 a0).setCell 1 a1).setCell 2 a2).setCell 3 a3).setCell 4 a4).setCell 5 a5))
theorem FP {m n:Int}:∀u'∈[Value.int .i64 m,Value.int .i64 n],u'.oneCell'=true:=by
 intro u' hu;simp at hu;rcases hu with rfl|rfl<;>rfl
structure fc (ls:List (B×Nat))(nb op gw ow cw:Nat)(ws:List B)(w wr:World)(k:Nat)(l:ab)(vp vn:Value):Prop where
 ln:dX wr (w.heap.size+1) l vp vn
 at_:aE w.heap.size wr l vp vn
 du:wr.heap[w.heap.size]?=some (.cells #[.int .i64 (op:Nat),.slice (some ⟨gw,ow,none⟩) (ae op).length cw] 240 (0,0))
 bz:Below w.heap.size w wr
 jt:l.places.length<=k/\l.next.length<=k
 same:cU ls nb (op,ws)=bV ls nb ((ae op).drop k) (ws.drop k) l
section
variable {ls:List (B×Nat)} {nb op gw ow cw:Nat} {ws:List B} {w wr w1 w2 w3:World} {k:Nat} {l:ab} {vp vn:Value}
theorem fc.on (h:fc ls nb op gw ow cw ws w wr k l vp vn)(hb:Below wr.heap.size wr w1):fc ls nb op gw ow cw ws w w1 k l vp vn:=
 ⟨h.ln.below hb (lt_of_heap h.ln),h.at_.below hb,by rw[hb.block _ (lt_of_heap h.du)];exact h.du,h.bz.trans (hb.mono h.bz.size),h.jt,h.same⟩
theorem fc.eo (h:fc ls nb op gw ow cw ws w wr k l vp vn)(hb:aW (w.heap.size+1) wr w1):aE w.heap.size w1 l vp vn/\w1.heap[w.heap.size]?=some (.cells #[.int .i64 (op:Nat),.slice (some ⟨gw,ow,none⟩) (ae op).length cw] 240 (0,0))/\Below w.heap.size w w1:=
 ⟨aE.iF h.at_ hb h.ln,by rw[hb.block _ (lt_of_heap h.du) (by omega)];exact h.du,h.bz.trans (hb.below (by omega) h.bz.size)⟩
theorem fc.next (h:fc ls nb op gw ow cw ws w w1 k l vp vn)(m:Nat){v':Value}(h2:Below w1.heap.size w1 w2)(eG:w3.ownsRow w.heap.size 3 1 v' (l.next.length+1) (df l.next++[.int .i64 (m:Nat)]))(hg:w2.grownBy w3 vn.ownBlock)
  (hs:cU ls nb (op,ws)=bV ls nb ((ae op).drop (k+1)) (ws.drop (k+1)) {l with next:=l.next++[m]}):fc ls nb op gw ow cw ws w (w3.setCell ⟨w.heap.size+1,5,none⟩ v') (k+1) {l with next:=l.next++[m]} vp v':=by
 have H:=h.on h2;have bE:∀(g:Nat) (cs:Array Value) (e:TypeId) (f:Nat×Nat),w2.heap[g]?=some (.cells cs e f)->3≠e->w3.heap[g]?=w2.heap[g]?:=fun g cs e f qS he=>hg.block g (lt_of_heap qS) (aF H.at_.next qS he)
 have Ic:dX w3 (w.heap.size+1) l vp vn:=by unfold dX;rw[bE _ _ _ _ H.ln (by decide)];exact H.ln
 have Il:w3.heap[w.heap.size]?=_:=(bE _ _ _ _ H.du (by decide)).trans H.du;have dR:Below w.heap.size w w3:=by
  refine H.bz.grown hg H.bz.size fun k hk=> ?_
  exact(H.at_.next.lt k hk).1
 refine⟨Ic.next v' (l.next++[m]),⟨?_,?_⟩,?_,dR.trans (((aW.refl _ w3).setCell 5 v').below (by omega) dR.size),⟨by have:=h.jt;simp;omega,by have:=h.jt;simp;omega⟩,hs⟩
 ·exact aC (H.at_.places.kept hg (cJ H.at_.places H.at_.next (by decide))) _ (az (H.at_.places.kept hg (cJ H.at_.places H.at_.next (by decide))) Ic (by decide))
 ·have:=aC eG (a:=⟨w.heap.size+1,5,none⟩) v' (az eG Ic (by decide));simpa [df]using this
 ·rw[Below.heap_setCell _ _ _ _ (by show w.heap.size≠w.heap.size+1;omega)];exact Il
theorem fc.place (h:fc ls nb op gw ow cw ws w w1 k l vp vn)(x:Nat×Nat){v':Value}(h2:Below w1.heap.size w1 w2)(eG:w3.ownsRow w.heap.size 119 2 v' (l.places.length+1) (aM l.places++[.int .i64 (x.1:Nat),.int .i64 (x.2:Nat)]))(hg:w2.grownBy w3 vp.ownBlock)
  (hs:cU ls nb (op,ws)=bV ls nb ((ae op).drop (k+1)) (ws.drop (k+1)) {l with places:=l.places++[x]}):fc ls nb op gw ow cw ws w (w3.setCell ⟨w.heap.size+1,2,none⟩ v') (k+1) {l with places:=l.places++[x]} v' vn:=by
 have H:=h.on h2;have bE:∀(g:Nat) (cs:Array Value) (e:TypeId) (f:Nat×Nat),w2.heap[g]?=some (.cells cs e f)->119≠e->w3.heap[g]?=w2.heap[g]?:=fun g cs e f qS he=>hg.block g (lt_of_heap qS) (aF H.at_.places qS he)
 have Ic:dX w3 (w.heap.size+1) l vp vn:=by unfold dX;rw[bE _ _ _ _ H.ln (by decide)];exact H.ln
 have Il:w3.heap[w.heap.size]?=_:=(bE _ _ _ _ H.du (by decide)).trans H.du;have dR:Below w.heap.size w w3:=by
  refine H.bz.grown hg H.bz.size fun k hk=> ?_
  exact(H.at_.places.lt k hk).1
 refine⟨Ic.places v' (l.places++[x]),⟨?_,?_⟩,?_,dR.trans (((aW.refl _ w3).setCell 2 v').below (by omega) dR.size),⟨by have:=h.jt;simp;omega,by have:=h.jt;simp;omega⟩,hs⟩
 ·have:=aC eG (a:=⟨w.heap.size+1,2,none⟩) v' (az eG Ic (by decide));simpa [aM,qw]using this
 ·exact aC (H.at_.next.kept hg (cJ H.at_.next H.at_.places (by decide))) _ (az (H.at_.next.kept hg (cJ H.at_.next H.at_.places (by decide))) Ic (by decide))
 ·rw[Below.heap_setCell _ _ _ _ (by show w.heap.size≠w.heap.size+1;omega)];exact Il
end
theorem AO {ls:List (B×Nat)}{nb op gw ow cw:Nat}{ws:List B}{w w1 w2 w3:World}{k:Nat}{l:ab}{vp vn:Value}(h:fc ls nb op gw ow cw ws w w1 k l vp vn)(h2:Below w1.heap.size w1 w2){vx:Value}{e:TypeId}{sz n:Nat}{xs:List Value}(hx:w2.ownsRow w.heap.size e sz vx n xs)(hg:w2.grownBy w3 vx.ownBlock)(he:e≠115):dX w3 (w.heap.size+1) l vp vn:=by
 have H:=h.on h2;unfold dX;rw[hg.block _ (lt_of_heap H.ln) (aF hx H.ln he)];exact H.ln
theorem dZ.none {z nb:Nat}{ls:List (B×Nat)}{x:Nat×List B}{w w':World}(hb:Below w.heap.size w w')(h:cU ls nb x=none):dZ z ls nb x w (.returned (.tuple #[.agg #[.int .i64 0,.int .i64 0,.slice none 0 0,.int .i64 0,.int .i64 0,.slice none 0 0],.bool false])) w':=by
 refine⟨hb,?_⟩;rw[h]
theorem dZ.some {z nb:Nat}{ls:List (B×Nat)}{x:Nat×List B}{w w':World}{l:ab}{vp vn:Value}(hb:Below w.heap.size w w')(h:cU ls nb x=some l)(hl:aE z w' l vp vn):dZ z ls nb x w (.returned (.tuple #[.agg #[.int .i64 (l.num:Nat),.int .i64 (l.op:Nat),vp,.int .i64 l.number,.int .i64 l.flag,vn],.bool true])) w':=by
 refine⟨hb,?_⟩;rw[h];exact⟨vp,vn,rfl,hl⟩
set_option maxRecDepth 20000 in
theorem CJ (ls:List (B×Nat))(nb op a gw ow cw:Nat)(ws:List B)(v u:Value)(w:World)(hp:w.heap[a]?=some (.cells #[v,u] 110 (0,0)))(hv:eT w v ls)(dS:ls.length<=4000)(_hnb:nb<=4000)(aH:op<23)(J1:ws.length=(ae op).length)(_hcw:(ae op).length<=cw)
  (NT:gw<w.heap.size) (hW:∀j,j<(ae op).length->w.cell? ⟨gw,ow+j,none⟩=some (.string (bs (word ws j)))) (hlen:∀j,(word ws j).length<=1048576) (E:Env w):
  Calls Tryz.prog 170 #[.pointer (some ⟨a,0,none⟩),.agg #[.int .i64 (op:Nat),.slice (some ⟨gw,ow,none⟩) (ae op).length cw],.int .i64 (nb:Nat)] w (dZ w.heap.size ls nb (op,ws) w):=by
 obtain⟨ip,X3,Yu,yu,MH⟩:=info_parts Cw;obtain⟨ii,X2,Uc,X0,X1⟩:=info_parts Iu;have J0:=qE op aH;have HW:Hid (ws.length=(ae op).length):=J1;clear J1;have iA:fc ls nb op gw ow cw ws w ((w.alloc (.cells #[.int .i64 (op:Nat),.slice (some ⟨gw,ow,none⟩) (ae op).length cw] 240)).alloc (.cells #[.int .i64 0,.int .i64 (op:Nat),.slice none 0 0,.int .i64 0,.int .i64 0,.slice none 0 0] 115)) 0 ⟨0,op,[],0,0,[]⟩ (.slice none 0 0) (.slice none 0 0):=by
  refine⟨?_,⟨World.ownsRow_nil _ _ _ _,World.ownsRow_nil _ _ _ _⟩,?_,((Below.refl _ _).alloc (jC _) _).alloc (by simp) _,⟨jC _,jC _⟩,rfl⟩
  ·unfold dX;rw[show w.heap.size+1=(w.alloc (.cells #[.int .i64 (op:Nat),.slice (some ⟨gw,ow,none⟩) (ae op).length cw] 240)).heap.size by simp];exact jD
  ·rw[((Below.refl (w.heap.size+1) _).alloc (by simp) _).block w.heap.size (by omega)];exact jD
 go_enter Tryz.func170,Tryz.ntmps170
 go_wp2
 go_loopw [22] (fun i wr=>∃(k:Nat) (l:ab) (vp vn:Value),k<=(ae op).length/\i=.int .i64 k/\fc ls nb op gw ow cw ws w wr k l vp vn) (fun i _=>(ae op).length-(intOf i).toNat)
 case atStart=>exact⟨0,_,_,_,jQ _,rfl,iA⟩
 case round=>
  obtain⟨k,l,vp,vn,hk,rfl,H⟩:=hrel;clear iA;obtain⟨c0,c1,c2,c3,c4,c5,hf⟩:=H.ln.facts;by_cases aP:k<(ae op).length
  ·have NL:wr.cell? ⟨gw,ow+k,none⟩=some (.string (bs (word ws k))):=(H.bz.cell (p:=⟨gw,ow+k,none⟩) NT).trans (hW k aP);have GO:wr.cell? ⟨w.heap.size,0,none⟩=some (.int .i64 (op:Nat)):=by rw[cell_of_heap H.du];rfl
   have vL:=iu (E.on H.bz) op aH;have E1:=E.on H.bz;have Yc:=hlen k;have HS:Hid (_=_):=H.same.trans (AM ls nb (ae op) ws k aP l);by_cases h1:(((ae op)[k].toNat:Int)==35)=true\/(((ae op)[k].toNat:Int)==118)=true
   ·have HN:Hid (_=_):=HS.out.trans (jb h1);have xz:=CY h1;clear h1 HS;have KN:=pJ (word ws k) wr (by omega) E1;rcases xz with h1|⟨h1,h2⟩
    all_goals
     go_wp2_with (go_at_call 203;refine KN.mono ?_;rintro e w1 ⟨rfl,aB⟩;have H1:=H.on aB;obtain⟨d0,d1,d2,d3,d4,d5,hd⟩:=H1.ln.facts;have g3:=hd 3)
     go_roundw
     case rel=>
      obtain⟨t1,t2,t3⟩:=H1.eo ((aW.refl _ _).setCell 3 (.int .i64 ((cI (word ws k)).getD 0)));exact⟨k+1,{l with number:=(cI (word ws k)).getD 0},vp,vn,by omega,by go_num,H1.ln.number _,⟨t1.places,t1.next⟩,t2,t3,⟨Nat.le_succ_of_le H.jt.1,Nat.le_succ_of_le H.jt.2⟩,HN.out⟩
     case measure=>simp[intOf];omega
   ·have HN:Hid (_=_):=HS.out.trans (ja h1);simp only[not_or,Bool.not_eq_true]at h1;obtain⟨b1,b2⟩:=h1;clear HS;by_cases h2:(((ae op)[k].toNat:Int)==102)=true
    ·have OI:Hid (_=_):=HN.out.trans (jb h2);clear HN;have KN:=sG (word ws k) wr (by omega) E1;go_wp2_with (go_at_call 204;refine KN.mono ?_;rintro e w1 ⟨rfl,aB⟩;have H1:=H.on aB;obtain⟨d0,d1,d2,d3,d4,d5,hd⟩:=H1.ln.facts;have g4:=hd 4)
     go_roundw
     case rel=>
      obtain⟨t1,t2,t3⟩:=H1.eo ((aW.refl _ _).setCell 4 (.int .i64 ((av (word ws k)).getD 0)));exact⟨k+1,{l with flag:=(av (word ws k)).getD 0},vp,vn,by omega,by go_num,H1.ln.flag _,⟨t1.places,t1.next⟩,t2,t3,⟨Nat.le_succ_of_le H.jt.1,Nat.le_succ_of_le H.jt.2⟩,OI.out⟩
     case measure=>simp[intOf];omega
    ·have OI:Hid (_=_):=HN.out.trans (ja h2);rw[Bool.not_eq_true]at h2;clear HN;by_cases h3:(((ae op)[k].toNat:Int)==98)=true
     ·have J4:Hid (_=_):=OI.out.trans (jb h3);clear OI;obtain⟨n1,n2⟩:=ed (word ws k);have KN:=qK (word ws k) wr (by omega) E1;obtain⟨m,hm⟩:∃m:Nat,(av (word ws k)).getD 0=(m:Int):=⟨((av (word ws k)).getD 0).toNat,by omega⟩;by_cases NS:(m:Int)≥nb
      ·have hx:cU ls nb (op,ws)=none:=J4.out.trans (jb (by rw[hm];exact NS));rw[hm]at KN;clear J4 hm n1 n2;go_wp2_with (go_at_call 205;refine KN.mono ?_;rintro e w1 ⟨rfl,aB⟩;have H1:=H.on aB;obtain⟨d0,d1,d2,d3,d4,d5,hd⟩:=H1.ln.facts;have g0:=hd 0;have g1:=hd 1;have g2:=hd 2;have g3:=hd 3;have g4:=hd 4;have g5:=hd 5)
       refine tp rfl rfl H1.ln fun w3 hT=> ?_
       obtain⟨t1,t2,t3⟩:=H1.eo hT;exact dZ.none t3 hx
      ·have hx:Hid (cU ls nb (op,ws)=bV ls nb ((ae op).drop (k+1)) (ws.drop (k+1)) {l with next:=l.next++[m]}):=by
        unfold Hid;rw[J4.out,ja (by rw[hm];exact NS),hm,Int.toNat_natCast]
       rw[hm]at KN;rw[hm]at n2;have rG:=H.jt;clear J4 hm n1;go_wp2_with (first
        |(go_at_call 205;refine KN.mono ?_;rintro e w1 ⟨rfl,aB⟩;have H1:=H.on aB;obtain⟨d0,d1,d2,d3,d4,d5,hd⟩:=H1.ln.facts;have g5:=hd 5;have aO:Below w1.heap.size w1 (w1.alloc (.cells #[.int .i64 (m:Nat)] 3)):=(Below.refl _ _).alloc (jC _) _)
        |(at_builtin;go_must (refine eU rfl _ _ 113 rfl w.heap.size 3 ii (.int .i64 0) 8 Tryz.underlying113 X2 Uc X0 X1 rfl vn _ _ rfl H1.at_.next _ rfl rfl (by decide) (by omega) H1.bz.size ?_);intro g2 c2' w2 hown2 hgrow2 hat2 sZ;have JX:=AO H1 aO (al H1.at_.next aO) hgrow2 (by decide);obtain⟨e0,e1,e2,e3,e4,e5,he⟩:=JX.facts;have g5':=he 5))
       go_roundw
       case rel=>exact⟨k+1,{l with next:=l.next++[m]},vp,_,by omega,by go_num,H1.next m aO hown2 hgrow2 hx.out⟩
       case measure=>simp[intOf];omega
     ·have J4:Hid (_=_):=OI.out.trans (ja h3);rw[Bool.not_eq_true]at h3;clear OI;have KN:=mj (word ws k) wr Yc E1;generalize ((bd (word ws k)).getD ([],0)).1=nm at*;generalize ((bd (word ws k)).getD ([],0)).2=pt at*;have Yw:∀w',Below wr.heap.size wr w'->w'.heap[a]?=some (.cells #[v,u] 110 (0,0)):=fun w' hb=>by
       have Ld:=lt_of_heap hp;rw[hb.block a (jK Ld H.bz.size),H.bz.block a Ld];exact hp
      have KF:=fun w' (hb:Below wr.heap.size wr w')=>zK ls v u nm a w' (Yw w' hb) ((hv.below H.bz).below hb) dS
      have Cp:=oy ls nm 0;change-1<=cE ls nm/\cE ls nm<_ at Cp;by_cases hneg:cE ls nm<0
      ·have hx:cU ls nb (op,ws)=none:=J4.out.trans (jb hneg);generalize cE ls nm=q at*;clear J4 Cp;go_wp2_with (first
        |(go_at_call 206;refine KN.mono ?_;rintro e w1 ⟨rfl,aB⟩)
        |(go_at_call 168;refine(KF _ aB).mono ?_;rintro e w2 ⟨rfl,bu⟩;have H1:=(H.on aB).on bu;obtain⟨d0,d1,d2,d3,d4,d5,hd⟩:=H1.ln.facts;have g0:=hd 0;have g1:=hd 1;have g2:=hd 2;have g3:=hd 3;have g4:=hd 4;have g5:=hd 5))
       refine tp rfl rfl H1.ln fun w3 hT=> ?_
       obtain⟨t1,t2,t3⟩:=H1.eo hT;exact dZ.none t3 hx
      ·obtain⟨m,hm⟩:∃m:Nat,cE ls nm=(m:Int):=⟨(cE ls nm).toNat,by omega⟩;have hx:Hid (cU ls nb (op,ws)=bV ls nb ((ae op).drop (k+1)) (ws.drop (k+1)) {l with places:=l.places++[(m,pt)]}):=by
        unfold Hid;rw[J4.out,ja hneg,hm,Int.toNat_natCast]
       rw[hm]at KF Cp;have rG:=H.jt;clear J4 hm hneg;go_wp2_with (first
        |(go_at_call 206;refine KN.mono ?_;rintro e w1 ⟨rfl,aB⟩)
        |(go_at_call 168;refine(KF _ aB).mono ?_;rintro e w2 ⟨rfl,bu⟩;have H1:=(H.on aB).on bu;obtain⟨d0,d1,d2,d3,d4,d5,hd⟩:=H1.ln.facts;have g2:=hd 2;have aO:Below w2.heap.size w2 (w2.alloc (.cells #[.int .i64 (m:Nat),.int .i64 (pt:Nat)] 119)):=(Below.refl _ _).alloc (jC _) _;have oG:w.heap.size<=(w2.alloc (.cells #[.int .i64 (m:Nat),.int .i64 (pt:Nat)] 119)).heap.size:=jS H1.bz.size aO.size)
        |(at_builtin;go_must (refine fF rfl _ _ 112 rfl w.heap.size 119 ip (.agg #[.int .i64 0,.int .i64 0]) 2 16 Tryz.underlying112 X3 Yu yu MH rfl (by decide) vp _ _ rfl (al H1.at_.places aO) w2.heap.size [.int .i64 (m:Nat),.int .i64 (pt:Nat)] rfl jD rfl FP (by decide) (by omega) oG ?_);intro g3 c3' w3 hown3 jm hat3 hlt3;have JX:=AO H1 aO (al H1.at_.places aO) jm (by decide);obtain⟨e0,e1,e2,e3,e4,e5,he⟩:=JX.facts;have g2':=he 2))
       go_roundw
       case rel=>exact⟨k+1,{l with places:=l.places++[(m,pt)]},_,vn,by omega,by go_num,H1.place (m,pt) aO hown3 jm hx.out⟩
       case measure=>simp[intOf];omega
  ·have hx:cU ls nb (op,ws)=some l:=by rw[H.same,jT (by omega)];rfl
   obtain⟨ap,cp,rfl⟩:=a8 H.at_.places;obtain⟨an,cn,rfl⟩:=a8 H.at_.next;have f0:=hf 0;have f1:=hf 1;have f2:=hf 2;have f3:=hf 3;have f4:=hf 4;have f5:=hf 5;clear hf;go_wp2
   refine tp rfl rfl H.ln fun w3 hT=> ?_
   obtain⟨t1,t2,t3⟩:=H.eo hT;exact dZ.some t3 hx t1
end PrjP
namespace PrjR
open Go Go.RowKit Sq Aux PrjF PrjG PrjH PrjI PrjJ PrjK PrjL PrjM PrjN PrjO PrjP
theorem gR {w:World}{v:Value}{ls:List (B×Nat)}(h:eT w v ls)(j:Nat)(hj:j<ls.length):∃g cap,v=.slice (some ⟨g,0,none⟩) ls.length cap/\ls.length<=cap/\g<w.heap.size/\w.cell? ⟨g,j*2,none⟩=some (.string (bs (ls.getD j ([],0)).1))/\w.cell? ⟨g,j*2+1,none⟩=some (.int .i64 ((ls.getD j ([],0)).2:Nat)):=by
 rcases mE h with⟨rfl,-⟩|⟨g,cap,hv,hc,hg,aQ⟩
 ·simp at hj
 ·exact⟨g,cap,hv,hc,hg,(aQ j hj).1,(aQ j hj).2⟩
theorem lX {q:QP}{x:Nat×Nat}{a:Nat}{b:Bool}(h1:q.aT x=a)(h2:(q.kind x).isSome=b):Ending.returned (.tuple #[.int .i64 (a:Nat),.bool b])=.returned (.tuple #[.int .i64 (q.aT x:Nat),.bool (q.kind x).isSome]):=by rw[h1,h2]
set_option maxRecDepth 20000 in
theorem lW (q:QP)(x:Nat×Nat)(v u:Value)(a:Nat)(w:World)(hp:w.heap[a]?=some (.cells #[v,u] 110 (0,0)))(hv:eT w v q.locals)(_hls:q.locals.length<=4000)(hx:x.1<q.locals.length):
  Calls Tryz.prog 207 #[.pointer (some ⟨a,0,none⟩),.agg #[.int .i64 (x.1:Nat),.int .i64 (x.2:Nat)]] w fun e w'=>e=.returned (.tuple #[.int .i64 (q.aT x:Nat),.bool (q.kind x).isSome])/\Below w.heap.size w w':=by
 obtain⟨g,cap,rfl,gK,hg,-,hc⟩:=gR hv x.1 hx;have aP:=lt_of_heap hp;have aO:Below w.heap.size w (w.alloc (.cells #[.int .i64 (x.1:Nat),.int .i64 (x.2:Nat)] 119)):=(Below.refl _ _).alloc (jC _) _;have c0:w.cell? ⟨a,0,none⟩=some (.slice (some ⟨g,0,none⟩) q.locals.length cap):=by rw[cell_of_heap hp];rfl
 have c0A:(w.alloc (.cells #[.int .i64 (x.1:Nat),.int .i64 (x.2:Nat)] 119)).cell? ⟨a,0,none⟩=some (.slice (some ⟨g,0,none⟩) q.locals.length cap):=(aO.cell (p:=⟨a,0,none⟩) aP).trans c0;have c1A:=(aO.cell (p:=⟨g,x.1*2+1,none⟩) hg).trans hc;have c2A:(w.alloc (.cells #[.int .i64 (x.1:Nat),.int .i64 (x.2:Nat)] 119)).cell? ⟨w.heap.size,0,none⟩=some (.int .i64 (x.1:Nat)):=by simp
 have c3A:(w.alloc (.cells #[.int .i64 (x.1:Nat),.int .i64 (x.2:Nat)] 119)).cell? ⟨w.heap.size,1,none⟩=some (.int .i64 (x.2:Nat)):=by simp
 have YW:(x.1:Int)<q.locals.length:=by omega
 have hT:Hid ((q.locals.getD x.1 ([],0)).2=q.cF x.1):=rfl;have hd:∀n,Below w.heap.size w ((w.alloc (.cells #[.int .i64 (x.1:Nat),.int .i64 (x.2:Nat)] 119)).drewN n):=fun n=>below_drewN aO n
 generalize (q.locals.getD x.1 ([],0)).2=t at*;by_cases cV:x.2=1\/x.2=2
 ·have b12:(((x.2:Nat):Int)==1)=true\/((((x.2:Nat):Int)==1)=false/\(((x.2:Nat):Int)==2)=true):=by
   rcases cV with h|h
   ·left;rw[h];rfl
   ·right;rw[h];exact⟨rfl,rfl⟩
  have hk:q.aT x=1:=by rw[QP.aT,jb (by omega)]
  have hs:(q.kind x).isSome=(t==2):=by
   rw[QP.kind,jb cV,<-hT.out];by_cases ht:t=2
   ·subst ht;rfl
   ·rw[ja ht];simp[ht]
  by_cases ht:t=2
  ·have RG:(((t:Nat):Int)==2)=true:=by rw[ht];rfl
   have E9:(q.kind x).isSome=true:=by rw[hs,ht];rfl
   clear hs ht;rcases b12 with b1|⟨b1,b2⟩
   all_goals
    go_enter Tryz.func207,Tryz.ntmps207
    go_wp2
    go_quiet (fail)
    go_wp2
    go_ret2
    exact⟨lX hk E9,hd nq⟩
  ·have RG:(((t:Nat):Int)==2)=false:=by rw[jZ];omega
   have E9:(q.kind x).isSome=false:=by rw[hs];simp[ht]
   clear hs ht;rcases b12 with b1|⟨b1,b2⟩
   all_goals
    go_enter Tryz.func207,Tryz.ntmps207
    go_wp2
    go_quiet (fail)
    go_wp2
    go_ret2
    exact⟨lX hk E9,hd nq⟩
 ·have b1:(((x.2:Nat):Int)==1)=false:=by rw[jZ];omega
  have b2:(((x.2:Nat):Int)==2)=false:=by rw[jZ];omega
  by_cases h3:x.2=3
  ·have b3:(((x.2:Nat):Int)==3)=true:=by rw[h3];rfl
   have hk:q.aT x=1:=by rw[QP.aT,jb (by omega)]
   have hs:(q.kind x).isSome=(t==3):=by
    rw[QP.kind,ja cV,jb h3,<-hT.out];by_cases ht:t=3
    ·subst ht;rfl
    ·rw[ja ht];simp[ht]
   by_cases ht:t=3
   ·have RG:(((t:Nat):Int)==3)=true:=by rw[ht];rfl
    have E9:(q.kind x).isSome=true:=by rw[hs,ht];rfl
    clear hs ht h3 cV;go_enter Tryz.func207,Tryz.ntmps207
    go_wp2
    go_quiet (fail)
    go_wp2
    go_ret2
    exact⟨lX hk E9,hd nq⟩
   ·have RG:(((t:Nat):Int)==3)=false:=by rw[jZ];omega
    have E9:(q.kind x).isSome=false:=by rw[hs];simp[ht]
    clear hs ht h3 cV;go_enter Tryz.func207,Tryz.ntmps207
    go_wp2
    go_quiet (fail)
    go_wp2
    go_ret2
    exact⟨lX hk E9,hd nq⟩
  ·have b3:(((x.2:Nat):Int)==3)=false:=by rw[jZ];omega
   have hk:q.aT x=t:=by rw[QP.aT,ja (by omega),hT.out]
   have hs:(q.kind x).isSome=true:=by rw[QP.kind,ja cV,ja h3];rfl
   clear h3 cV;go_enter Tryz.func207,Tryz.ntmps207
   go_wp2
   go_quiet (fail)
   go_wp2
   go_ret2
   exact⟨lX hk hs,hd nq⟩
theorem As (t:Nat)(c:UInt8):ez t c=if((c.toNat:Int)==105)=true then((t:Int)==0)else if((c.toNat:Int)==111)=true then((t:Int)==3)else if((c.toNat:Int)==112)=true then((t:Int)==1)else !((t:Int)==0):=by
 have e:∀n:Nat,n<256->(((c.toNat:Int)==(n:Int))=true↔c=UInt8.ofNat n):=fun n hn=>by
  rw[rj c n hn,beq_iff_eq];omega
 have e1:=e 105 (by omega);have e2:=e 111 (by omega);have e3:=e 112 (by omega);simp only[Int.cast_ofNat_Int]at e1 e2 e3;have f:∀m:Nat,((t:Int)==(m:Int))=(t==m):=fun m=>by rw[jX,beq_iff_eq,beq_iff_eq];omega
 have f0:=f 0;have f1:=f 1;have f3:=f 3;simp only[Int.cast_ofNat_Int]at f0 f1 f3;simp only[e1,e2,e3,f0,f1,f3];rfl
set_option maxRecDepth 20000 in
theorem Cy (t:Nat)(c:UInt8)(w:World):
  Calls Tryz.prog 208 #[.int .i64 (t:Nat),.int .u8 c.toNat] w fun e w'=>e=.returned (.bool (ez t c))/\w'=w:=by
 rw[As];cases h1:((c.toNat:Int)==105)<;>cases h2:((c.toNat:Int)==111)<;>cases h3:((c.toNat:Int)==112)
 all_goals
  go_enter Tryz.func208,Tryz.ntmps208
  go_wp2
  go_ret
  exact⟨rfl,rfl⟩
set_option maxRecDepth 20000 in
theorem yV (q:QP)(x y:Nat×Nat)(v u:Value)(a:Nat)(w:World)(hp:w.heap[a]?=some (.cells #[v,u] 110 (0,0)))(hv:eT w v q.locals)(dS:q.locals.length<=4000)(hx:x.1<q.locals.length)(hy:y.1<q.locals.length):
  Calls Tryz.prog 209 #[.pointer (some ⟨a,0,none⟩),.agg #[.int .i64 (x.1:Nat),.int .i64 (x.2:Nat)],.agg #[.int .i64 (y.1:Nat),.int .i64 (y.2:Nat)]] w fun e w'=>e=.returned (.bool (q.aT x==q.aT y))/\Below w.heap.size w w':=by
 have aO:Below w.heap.size w ((w.alloc (.cells #[.int .i64 (x.1:Nat),.int .i64 (x.2:Nat)] 119)).alloc (.cells #[.int .i64 (y.1:Nat),.int .i64 (y.2:Nat)] 119)):=((Below.refl _ _).alloc (jC _) _).alloc (by simp) _;have Cq:((w.alloc (.cells #[.int .i64 (x.1:Nat),.int .i64 (x.2:Nat)] 119)).alloc (.cells #[.int .i64 (y.1:Nat),.int .i64 (y.2:Nat)] 119)).heap.size=w.heap.size+2:=by simp
 have aP:=lt_of_heap hp;have KK:=fun(z:Nat×Nat) (hz:z.1<q.locals.length) (w':World) (hb:Below w.heap.size w w')=>lW q z v u a w' (by rw[hb.block a aP];exact hp) (hv.below hb) dS hz
 have d1:∀w',Below ((w.alloc (.cells #[.int .i64 (x.1:Nat),.int .i64 (x.2:Nat)] 119)).alloc (.cells #[.int .i64 (y.1:Nat),.int .i64 (y.2:Nat)] 119)).heap.size ((w.alloc (.cells #[.int .i64 (x.1:Nat),.int .i64 (x.2:Nat)] 119)).alloc (.cells #[.int .i64 (y.1:Nat),.int .i64 (y.2:Nat)] 119)) w'->w'.cell? ⟨w.heap.size+1,0,none⟩=some (.int .i64 (y.1:Nat))/\w'.cell? ⟨w.heap.size+1,1,none⟩=some (.int .i64 (y.2:Nat)):=fun w' hb=>
  ⟨(hb.cell (p:=⟨w.heap.size+1,0,none⟩) (by show w.heap.size+1<_;omega)).trans (by simp),(hb.cell (p:=⟨w.heap.size+1,1,none⟩) (by show w.heap.size+1<_;omega)).trans (by simp)⟩
 have KX:=KK x hx _ aO;have KY:=fun w' hb=>KK y hy w' hb
 rw[show(q.aT x==q.aT y)=(((q.aT x:Nat):Int)==((q.aT y:Nat):Int)) by rw[jX,beq_iff_eq,beq_iff_eq];omega];clear Cq KK;generalize q.aT x=kx at*;generalize q.aT y=ky at*;generalize (q.kind x).isSome=bx at*;generalize (q.kind y).isSome=by_ at*;go_enter Tryz.func209,Tryz.ntmps209
 go_wp2_with (first
  |(go_at_call 207;refine(KY _ dk).mono ?_;rintro e w2 ⟨rfl,bu⟩)
  |(go_at_call 207;refine KX.mono ?_;rintro e w1 ⟨rfl,aB⟩;have dk:=aO.trans (aB.mono aO.size);obtain⟨y0,y1⟩:=d1 _ aB))
 go_ret
 exact⟨rfl,dk.trans (bu.mono dk.size)⟩
end PrjR
end Go.Proofs.YtmlgajhhnojdjaaGreatDoor

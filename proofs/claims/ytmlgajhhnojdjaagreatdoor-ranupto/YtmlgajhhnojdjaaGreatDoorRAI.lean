import Derived.Test.YtmlgajhhnojdjaaGreatDoorRAH
namespace Go.Proofs.YtmlgajhhnojdjaaGreatDoor
namespace PrjO
open Go Go.RowKit Sq Aux PrjF PrjG PrjH PrjI PrjJ PrjK PrjL PrjM PrjN
theorem LY {z:Nat}{w:World}{v:Value}{S:List (Nat×List B)}{vs:List Value}(h:cR z w v S vs)(hn:0<S.length):∃g cap,v=.slice (some ⟨g,0,none⟩) S.length cap/\S.length<=cap/\g<w.heap.size:=by
 obtain⟨g,cap,hv,hc,hg,-⟩:=dJ h.row hn;exact⟨g,cap,hv,hc,hg⟩
theorem za {z:Nat}{w:World}{g cap:Nat}{S:List (Nat×List B)}{vs:List Value}(h:cR z w (.slice (some ⟨g,0,none⟩) S.length cap) S vs)(j:Nat)(hj:j<S.length):
  w.cell? ⟨g,j*2,none⟩=some (.int .i64 ((S.getD j (0,[])).1:Nat))/\∃gw ow cw,w.cell? ⟨g,j*2+1,none⟩=some (.slice (some ⟨gw,ow,none⟩) (S.getD j (0,[])).2.length cw)/\fN w (.slice (some ⟨gw,ow,none⟩) (S.getD j (0,[])).2.length cw) (S.getD j (0,[])).2:=by
 obtain⟨g',cap',hv,-,-,h1,h2⟩:=h.at j hj;simp only[Value.slice.injEq,Option.some.injEq,Addr.mk.injEq,and_true,true_and]at hv;obtain⟨rfl,rfl⟩:=hv;have h3:=h.each j hj;have Zl:=h3;obtain⟨gw,ow,cw,e,-⟩:=Zl;rw[e]at h2 h3;exact⟨h1,gw,ow,cw,h2,h3⟩
theorem mV (S:List (Nat×List B))(k:Nat)(hk:k<S.length):countB (S.take (k+1))=countB (S.take k)+if(S.getD k (0,[])).1=1 then 1 else 0:=by
 unfold countB;rw[List.take_add_one,jB hk,Option.toList_some,List.filter_append,jV];congr 1;have:S.getD k (0,[])=S[k]:=by simp[List.getD_eq_getElem?_getD,hk]
 rw[this];by_cases h:S[k].1=1
 ·rw[jb h];simp[h]
 ·rw[ja h];simp[h]
theorem countB_le (S:List (Nat×List B)):countB S<=S.length:=List.length_filter_le ..
set_option maxRecDepth 20000 in
theorem zg {z g cap:Nat}{S:List (Nat×List B)}{vs:List Value}(w:World)(h:cR z w (.slice (some ⟨g,0,none⟩) S.length cap) S vs)(hS:S.length<=4000)(_hcap:S.length<=cap):
  Calls Tryz.prog 167 #[.slice (some ⟨g,0,none⟩) S.length cap] w fun e w'=>e=.returned (.int .i64 (countB S:Nat))/\Below w.heap.size w w':=by
 go_enter Tryz.func167,Tryz.ntmps167
 go_wp2
 go_loopw [3,8] (fun n i wr=>∃(k c:Nat),k<=S.length/\c<=k/\i=.int .i64 k/\n=.int .i64 c/\Below w.heap.size w wr/\Hid (c=countB (S.take k))) (fun _ i _=>S.length-(intOf i).toNat)
 case atStart=>exact⟨0,0,jQ _,jC _,rfl,rfl,Below.refl _ _,rfl⟩
 case round=>
  obtain⟨k,c,hk,hc,rfl,rfl,hB,HC⟩:=hrel;by_cases aK:k<S.length
  ·obtain⟨h1,gw,ow,cw,h2,-⟩:=za (h.below hB) k aK;have HS:Hid (_=_):=mV S k aK;by_cases h1b:(S.getD k (0,[])).1=1
   ·have av:(((S.getD k (0,[])).1:Int)==1)=true:=by rw[h1b];rfl
    have HQ:Hid ((S.getD k (0,[])).1=1):=h1b;clear h1b;generalize (S.getD k (0,[])).1=op at*;go_wp2
    go_roundw
    case rel=>exact⟨k+1,c+1,by omega,by omega,by go_num,by go_num,hB.alloc hB.size _,by unfold Hid;rw[HS.out,jb HQ.out,HC.out]⟩
    case measure=>simp[intOf];omega
   ·have av:(((S.getD k (0,[])).1:Int)==1)=false:=by rw[jZ];omega
    have HQ:Hid (¬(S.getD k (0,[])).1=1):=h1b;clear h1b;generalize (S.getD k (0,[])).1=op at*;go_wp2
    go_roundw
    case rel=>exact⟨k+1,c,by omega,by omega,by go_num,by go_num,hB.alloc hB.size _,by unfold Hid;rw[HS.out,ja HQ.out,HC.out];rfl⟩
    case measure=>simp[intOf];omega
  ·go_wp2
   go_ret
   have e:=HC.out;rw[List.take_of_length_le (by omega)]at e;exact⟨by rw[e];rfl,hB⟩
def ma (w:World)(v:Value)(ls:List (B×Nat)):Prop:=∃z,w.ownsRow z 146 2 v ls.length (q9 ls)
theorem ma.below {w w':World}{v:Value}{ls:List (B×Nat)}(h:ma w v ls)(hb:Below w.heap.size w w'):ma w' v ls:=by
 obtain⟨z,h⟩:=h;exact⟨z,ax h hb⟩
theorem Dl {w:World}{v:Value}{ls:List (B×Nat)}(h:ma w v ls):(ls=[]/\v=.slice none 0 0)\/∃g cap,v=.slice (some ⟨g,0,none⟩) ls.length cap/\ls.length<=cap/\g<w.heap.size/\∀j,j<ls.length->w.cell? ⟨g,j*2,none⟩=some (.string (bs (ls.getD j ([],0)).1))/\w.cell? ⟨g,j*2+1,none⟩=some (.int .i64 ((ls.getD j ([],0)).2:Nat)):=by
 obtain⟨z,h⟩:=h;rcases h.2 with⟨hv,hn⟩|⟨g,cap,cur,hv,hz,hg,hc,hm,hs,ht⟩
 ·exact .inl ⟨List.eq_nil_of_length_eq_zero hn,hv⟩
 ·refine .inr ⟨g,cap,hv,hc,lt_of_heap hg,fun j hj=> ?_⟩;have key:∀c,c<2->w.cell? ⟨g,j*2+c,none⟩=(zR (ls.getD j ([],0)))[c]?:=fun c mZ=>by
   rw[cell_of_heap hg];have:(cur.toList.take (ls.length*2))[j*2+c]?=cur[j*2+c]?:=by
    rw[List.getElem?_take,jb (by omega)];simp
   rw[<-this,ht,q9,jm zR 2 (fun _=>rfl) ls j c mZ];simp[hj]
  exact⟨key 0 (by decide),key 1 (by decide)⟩
theorem J0 (ls:List (B×Nat))(n:B)(k:Nat)(hk:k<ls.length):bQ (ls.drop k) n k=if(ls.getD k ([],0)).1=n then(k:Int)else bQ (ls.drop (k+1)) n (k+1):=by
 rw[jE hk,bQ];have:ls.getD k ([],0)=ls[k]:=by simp[List.getD_eq_getElem?_getD,hk]
 rw[this]
theorem G4 (a n:B)(t:Int)(b:Nat)(w:World)(hn:w.cell? ⟨b,0,none⟩=some (.string (bs n)))(hb:b<w.heap.size):
  Calls Tryz.prog 202 #[.agg #[.string (bs a),.int .i64 t],.pointer (some ⟨b,0,none⟩)] w fun e w'=>e=.returned (.bool (a==n))/\Below w.heap.size w w':=by
 have ht:=aD a;have X2:=aD n;have ea:b≠w.heap.size:=by omega
 go_enter Tryz.func202,Tryz.ntmps202
 go_wp2
 go_ret
 exact⟨rfl,(Below.refl _ _).alloc (jC _) _⟩
set_option maxRecDepth 20000 in
theorem Cs (ls:List (B×Nat))(v:Value)(n:B)(b:Nat)(w:World)(hv:ma w v ls)(ic:ls.length<=4000)(hn:w.cell? ⟨b,0,none⟩=some (.string (bs n)))(hb:b<w.heap.size):
  Calls Tryz.prog 201 #[v,.func (.func 202) #[] #[.pointer (some ⟨b,0,none⟩)]] w fun e w'=>e=.returned (.int .i64 (dE ls n))/\Below w.heap.size w w':=by
 rcases Dl hv with⟨rfl,rfl⟩|⟨g,cap,rfl,kL,hg,aC⟩
 ·go_enter Tryz.func201,Tryz.ntmps201
  go_wp2
  go_loopw [8] (fun i wr=>i=.int .i64 0/\wr=w) (fun _ _=>0)
  case atStart=>exact⟨rfl,rfl⟩
  case round=>
   obtain⟨rfl,rfl⟩:=hrel;go_wp2
   go_ret
   exact⟨rfl,Below.refl _ _⟩
 ·have HF:Hid (dE ls n=bQ (ls.drop 0) n 0):=rfl;go_enter Tryz.func201,Tryz.ntmps201
  go_wp2
  go_loopw [8] (fun i wr=>∃k:Nat,k<=ls.length/\i=.int .i64 k/\Below w.heap.size w wr/\Hid (dE ls n=bQ (ls.drop k) n k)) (fun i _=>ls.length-(intOf i).toNat)
  case atStart=>exact⟨0,jQ _,rfl,Below.refl _ _,HF⟩
  case round=>
   obtain⟨k,hk,rfl,hB,HI⟩:=hrel;by_cases aK:k<ls.length
   ·obtain⟨h1,h2⟩:=aC k aK;have c1:=(hB.cell (p:=⟨g,k*2,none⟩) hg).trans h1;have c2:=(hB.cell (p:=⟨g,k*2+1,none⟩) hg).trans h2;have cn:=(hB.cell (p:=⟨b,0,none⟩) hb).trans hn;have HS:Hid (_=_):=J0 ls n k aK;have KL:=G4 (ls.getD k ([],0)).1 n ((ls.getD k ([],0)).2:Nat) b wr cn (jK hb hB.size);clear h1 h2 aC;generalize (ls.getD k ([],0)).1=a at*;generalize (ls.getD k ([],0)).2=t at*;by_cases hq:a=n
    ·have RL:(a==n)=true:=by simp[hq]
     have HQ:Hid (a=n):=hq;rw[RL]at KL;clear hq RL;go_wp2_with (go_at_call 202;refine KL.mono ?_;rintro e w1 ⟨rfl,av⟩)
     go_ret
     exact⟨by rw[HI.out,HS.out,jb HQ.out];rfl,hB.trans (av.mono hB.size)⟩
    ·have RL:(a==n)=false:=by simp[hq]
     have HQ:Hid (¬a=n):=hq;rw[RL]at KL;clear hq RL;go_wp2_with (go_at_call 202;refine KL.mono ?_;rintro e w1 ⟨rfl,av⟩)
     go_roundw
     case rel=>exact⟨k+1,by omega,by go_num,hB.trans (av.mono hB.size),by unfold Hid;rw[HI.out,HS.out,ja HQ.out]⟩
     case measure=>simp[intOf];omega
   ·have e:dE ls n= -1:=by rw[HI.out,jT (by omega)];rfl
    go_wp2
    go_ret
    exact⟨by rw[e];rfl,hB⟩
set_option maxRecDepth 20000 in
theorem mh (ls:List (B×Nat))(v u:Value)(n:B)(a:Nat)(w:World)(hp:w.heap[a]?=some (.cells #[v,u] 110 (0,0)))(hv:ma w v ls)(ic:ls.length<=4000):
  Calls Tryz.prog 168 #[.pointer (some ⟨a,0,none⟩),.string (bs n)] w fun e w'=>e=.returned (.int .i64 (dE ls n))/\Below w.heap.size w w':=by
 have lH:Below w.heap.size w (w.alloc (.cells #[.string (bs n)] 9)):=(Below.refl _ _).alloc (jC _) _;have KI:=Cs ls v n w.heap.size (w.alloc (.cells #[.string (bs n)] 9)) (hv.below lH) ic (by simp) (by simp);have aK:=lt_of_heap hp;have hc:w.cell? ⟨a,0,none⟩=some v:=by rw[cell_of_heap hp];rfl
 have ea:a≠w.heap.size:=by omega
 have hmf:∀(fn:Fn) (first cap:Array Value) (w:World),(Instr.makeFunc fn first cap).run Tryz.prog w=.ok (.func fn first cap) w:=fun _ _ _ _=>rfl
 go_enter Tryz.func168,Tryz.ntmps168
 go_wp2_with (go_at_call 201;refine KI.mono ?_;rintro e w1 ⟨rfl,av⟩)
 go_ret
 exact⟨rfl,lH.trans (av.mono lH.size)⟩
end PrjO
namespace PrjP
open Go Go.RowKit Sq Aux PrjF PrjG PrjH PrjI PrjJ PrjK PrjL PrjM PrjN PrjO
def gy (w:World)(b:Nat)(l:aa)(vp vn:Value):Prop:=
 w.heap[b]?=some (.cells #[.int .i64 (l.num:Nat),.int .i64 (l.op:Nat),vp,.int .i64 l.number,.int .i64 l.flag,vn] 115 (0,0))
section
variable {w w':World} {b:Nat} {l:aa} {vp vn:Value}
theorem gy.below {z:Nat}(h:gy w b l vp vn)(hb:Below z w w')(hz:b<z):gy w' b l vp vn:=by
 unfold gy;rw[hb.block b hz];exact h
theorem gy.facts (h:gy w b l vp vn):w.cell? ⟨b,0,none⟩=some (.int .i64 (l.num:Nat))/\w.cell? ⟨b,1,none⟩=some (.int .i64 (l.op:Nat))/\w.cell? ⟨b,2,none⟩=some vp/\w.cell? ⟨b,3,none⟩=some (.int .i64 l.number)/\w.cell? ⟨b,4,none⟩=some (.int .i64 l.flag)/\w.cell? ⟨b,5,none⟩=some vn/\∀o,w.frozen? ⟨b,o,none⟩=false:=by
 unfold gy at h;refine⟨?_,?_,?_,?_,?_,?_,frozen_of_heap h⟩<;>(rw[cell_of_heap h];rfl)
theorem gy.number (h:gy w b l vp vn)(n:Int):gy (w.setCell ⟨b,3,none⟩ (.int .i64 n)) b {l with number:=n} vp vn:=by
 unfold gy at h⊢;rw[Go.Proofs.YtmlgajhhnojdjaaGreatDoor.Aux.heap_setCell_same h 3];rfl
theorem gy.flag (h:gy w b l vp vn)(n:Int):gy (w.setCell ⟨b,4,none⟩ (.int .i64 n)) b {l with flag:=n} vp vn:=by
 unfold gy at h⊢;rw[Go.Proofs.YtmlgajhhnojdjaaGreatDoor.Aux.heap_setCell_same h 4];rfl
theorem gy.places (h:gy w b l vp vn)(v:Value)(ps:List (Nat×Nat)):gy (w.setCell ⟨b,2,none⟩ v) b {l with places:=ps} v vn:=by
 unfold gy at h⊢;rw[Go.Proofs.YtmlgajhhnojdjaaGreatDoor.Aux.heap_setCell_same h 2];rfl
theorem gy.next (h:gy w b l vp vn)(v:Value)(ns:List Nat):gy (w.setCell ⟨b,5,none⟩ v) b {l with next:=ns} vp v:=by
 unfold gy at h⊢;rw[Go.Proofs.YtmlgajhhnojdjaaGreatDoor.Aux.heap_setCell_same h 5];rfl
theorem bp.qa {z:Nat}(h:bp z w l vp vn)(hb:bu b w w'){cs:Array Value}{f:Nat×Nat}(hl:w.heap[b]?=some (.cells cs 115 f)):bp z w' l vp vn:=
 h.de fun he hv=>gh hv fun g hg=>hb.block g (hv.lt g hg).2 fun x=>by
  subst x;rcases he with rfl|rfl
  ·exact ar hv hl (by decide) hg
  ·exact ar hv hl (by decide) hg
end
theorem bZ {w:World}{z:Nat}{e:TypeId}{s:Nat}{v:Value}{n:Nat}{xs:List Value}(h:w.ownsRow z e s v n xs):∃ad c,v=.slice ad n c:=by
 rcases h.2 with⟨rfl,rfl⟩|⟨g,cap,cur,rfl,-⟩
 ·exact⟨none,0,rfl⟩
 ·exact⟨_,_,rfl⟩
def fT (z:Nat)(ls:List (B×Nat))(nb:Nat)(x:Nat×List B)(w:World)(e:Ending)(w':World):Prop:=
 Below w.heap.size w w'/\match ey ls nb x with
  |none=>e=.returned (.tuple #[.agg #[.int .i64 0,.int .i64 0,.slice none 0 0,.int .i64 0,.int .i64 0,.slice none 0 0],.bool false])
  |some l=>∃vp vn,e=.returned (.tuple #[.agg #[.int .i64 (l.num:Nat),.int .i64 (l.op:Nat),vp,.int .i64 l.number,.int .i64 l.flag,vn],.bool true])/\bp z w' l vp vn
theorem Kx:(Tryz.prog.info? 119).map (fun i=>(i.zero,i.size,i.bytes))=some (some (.agg #[.int .i64 0,.int .i64 0]),2,16):=by kernel_rfl
theorem A2:(Tryz.prog.info? 3).map (fun i=>(i.zero,i.size,i.bytes))=some (some (.int .i64 0),1,8):=by kernel_rfl
theorem H3 (ls:List (B×Nat))(nb:Nat)(f:B)(ws:List B)(k:Nat)(hk:k<f.length)(l:aa):cY ls nb (f.drop k) (ws.drop k) l=
  if((f[k].toNat:Int)==35)=true\/((f[k].toNat:Int)==118)=true then cY ls nb (f.drop (k+1)) (ws.drop (k+1)) {l with number:=(dO (word ws k)).getD 0}
  else if((f[k].toNat:Int)==102)=true then cY ls nb (f.drop (k+1)) (ws.drop (k+1)) {l with flag:=(az (word ws k)).getD 0}
  else if((f[k].toNat:Int)==98)=true then
   (if((az (word ws k)).getD 0)≥nb then none else cY ls nb (f.drop (k+1)) (ws.drop (k+1)) {l with next:=l.next++[((az (word ws k)).getD 0).toNat]})
  else
   (if dE ls ((bR (word ws k)).getD ([],0)).1<0 then none
    else cY ls nb (f.drop (k+1)) (ws.drop (k+1)) {l with places:=l.places++[((dE ls ((bR (word ws k)).getD ([],0)).1).toNat,((bR (word ws k)).getD ([],0)).2)]}):=by
 have e:∀n:Nat,n<256->(((f[k].toNat:Int)==(n:Int))=true↔f[k]=UInt8.ofNat n):=fun n hn=>by
  rw[kV f[k] n hn,beq_iff_eq];omega
 have e1:=e 35 (by omega);have e2:=e 118 (by omega);have e3:=e 102 (by omega);have e4:=e 98 (by omega);simp only[Int.cast_ofNat_Int]at e1 e2 e3 e4;have hw:word (ws.drop k) 0=word ws k:=by simp[word]
 simp only[e1,e2,e3,e4];rw[jE hk,cY,hw,List.drop_drop];rfl
theorem PH {w:World}{b:Nat}{l:aa}{vp vn:Value}(r:gy w b l vp vn)(a0 a1 a2 a3 a4 a5:Value):
  ((((((w.setCell ⟨b,0,none⟩ a0).setCell ⟨b,1,none⟩ a1).setCell ⟨b,2,none⟩ a2).setCell ⟨b,3,none⟩ a3).setCell ⟨b,4,none⟩ a4).setCell ⟨b,5,none⟩ a5).rangeAt b 0 [a0,a1,a2,a3,a4,a5]:=by
 unfold gy at r;have h1:=Go.Proofs.YtmlgajhhnojdjaaGreatDoor.Aux.heap_setCell_same r 0 a0;have h2:=Go.Proofs.YtmlgajhhnojdjaaGreatDoor.Aux.heap_setCell_same h1 1 a1;have h3:=Go.Proofs.YtmlgajhhnojdjaaGreatDoor.Aux.heap_setCell_same h2 2 a2;have h4:=Go.Proofs.YtmlgajhhnojdjaaGreatDoor.Aux.heap_setCell_same h3 3 a3;have h5:=Go.Proofs.YtmlgajhhnojdjaaGreatDoor.Aux.heap_setCell_same h4 4 a4;have h6:=Go.Proofs.YtmlgajhhnojdjaaGreatDoor.Aux.heap_setCell_same h5 5 a5;intro j v hv;rw[cell_of_heap h6]
 match j,hv with
 |0,hv=>simpa using hv
 |1,hv=>simpa using hv
 |2,hv=>simpa using hv
 |3,hv=>simpa using hv
 |4,hv=>simpa using hv
 |5,hv=>simpa using hv
theorem Om:(Tryz.prog.info? 115).map (·.size)=some 6:=by kernel_rfl
theorem Be {z nb:Nat}{ls:List (B×Nat)}{x:Nat×List B}{w w2:World}{tmps:Array Value}{a0 a1 a2 a3 a4 a5:Value}{bl:Bool}{b:Nat}{l:aa}{vp vn:Value}(h6:tmps.getD 6 undef=.pointer (some ⟨b,0,none⟩))(h7:tmps.getD 7 undef=.bool bl)(r:gy w2 b l vp vn)
  (P:∀w3,bu b w2 w3->fT z ls nb x w (.returned (.tuple #[.agg #[a0,a1,a2,a3,a4,a5],.bool bl])) w3):
  bodyPost Tryz.prog Tryz.f170 (fT z ls nb x w) Exit.ret {tmps:=tmps,defers:=[]} ((((((w2.setCell ⟨b,0,none⟩ a0).setCell ⟨b,1,none⟩ a1).setCell ⟨b,2,none⟩ a2).setCell ⟨b,3,none⟩ a3).setCell ⟨b,4,none⟩ a4).setCell ⟨b,5,none⟩ a5):=by
 refine bodyPost_ret (eF Tryz.results170 tmps _ _ b [a0,a1,a2,a3,a4,a5] _ h6 (PH r a0 a1 a2 a3 a4 a5) Tryz.underlying115 rfl Om) rfl ?_;rw[h7];exact P _ ((((((((bu.refl b w2).setCell 0 a0).setCell 1 a1).setCell 2 a2).setCell 3 a3).setCell 4 a4).setCell 5 a5))
theorem Pa {m n:Int}:∀u'∈[Value.int .i64 m,Value.int .i64 n],u'.oneCell'=true:=by
 intro u' hu;simp at hu;rcases hu with rfl|rfl<;>rfl
structure iQ (ls:List (B×Nat))(nb op gw ow cw:Nat)(ws:List B)(w wr:World)(k:Nat)(l:aa)(vp vn:Value):Prop where
 ln:gy wr (w.heap.size+1) l vp vn
 at_:bp w.heap.size wr l vp vn
 eL:wr.heap[w.heap.size]?=some (.cells #[.int .i64 (op:Nat),.slice (some ⟨gw,ow,none⟩) (ae op).length cw] 240 (0,0))
 bq:Below w.heap.size w wr
 fc:l.places.length<=k/\l.next.length<=k
 same:ey ls nb (op,ws)=cY ls nb ((ae op).drop k) (ws.drop k) l
section
variable {ls:List (B×Nat)} {nb op gw ow cw:Nat} {ws:List B} {w wr w1 w2 w3:World} {k:Nat} {l:aa} {vp vn:Value}
theorem iQ.on (h:iQ ls nb op gw ow cw ws w wr k l vp vn)(hb:Below wr.heap.size wr w1):iQ ls nb op gw ow cw ws w w1 k l vp vn:=
 ⟨h.ln.below hb (lt_of_heap h.ln),h.at_.below hb,by rw[hb.block _ (lt_of_heap h.eL)];exact h.eL,h.bq.trans (hb.mono h.bq.size),h.fc,h.same⟩
theorem iQ.BX (h:iQ ls nb op gw ow cw ws w wr k l vp vn)(hb:bu (w.heap.size+1) wr w1):bp w.heap.size w1 l vp vn/\w1.heap[w.heap.size]?=some (.cells #[.int .i64 (op:Nat),.slice (some ⟨gw,ow,none⟩) (ae op).length cw] 240 (0,0))/\Below w.heap.size w w1:=
 ⟨bp.qa h.at_ hb h.ln,by rw[hb.block _ (lt_of_heap h.eL) (by omega)];exact h.eL,h.bq.trans (hb.below (by omega) h.bq.size)⟩
theorem iQ.next (h:iQ ls nb op gw ow cw ws w w1 k l vp vn)(m:Nat){v':Value}(h2:Below w1.heap.size w1 w2)(jr:w3.ownsRow w.heap.size 3 1 v' (l.next.length+1) (dG l.next++[.int .i64 (m:Nat)]))(hg:w2.grownBy w3 vn.ownBlock)
  (hs:ey ls nb (op,ws)=cY ls nb ((ae op).drop (k+1)) (ws.drop (k+1)) {l with next:=l.next++[m]}):iQ ls nb op gw ow cw ws w (w3.setCell ⟨w.heap.size+1,5,none⟩ v') (k+1) {l with next:=l.next++[m]} vp v':=by
 have H:=h.on h2;have de:∀(g:Nat) (cs:Array Value) (e:TypeId) (f:Nat×Nat),w2.heap[g]?=some (.cells cs e f)->3≠e->w3.heap[g]?=w2.heap[g]?:=fun g cs e f yS he=>hg.block g (lt_of_heap yS) (bh H.at_.next yS he)
 have Kk:gy w3 (w.heap.size+1) l vp vn:=by unfold gy;rw[de _ _ _ _ H.ln (by decide)];exact H.ln
 have XW:w3.heap[w.heap.size]?=_:=(de _ _ _ _ H.eL (by decide)).trans H.eL;have lI:Below w.heap.size w w3:=by
  refine H.bq.grown hg H.bq.size fun k hk=> ?_
  exact(H.at_.next.lt k hk).1
 refine⟨Kk.next v' (l.next++[m]),⟨?_,?_⟩,?_,lI.trans (((bu.refl _ w3).setCell 5 v').below (by omega) lI.size),⟨by have:=h.fc;simp;omega,by have:=h.fc;simp;omega⟩,hs⟩
 ·exact au (H.at_.places.kept hg (cZ H.at_.places H.at_.next (by decide))) _ (ar (H.at_.places.kept hg (cZ H.at_.places H.at_.next (by decide))) Kk (by decide))
 ·have:=au jr (a:=⟨w.heap.size+1,5,none⟩) v' (ar jr Kk (by decide));simpa [dG]using this
 ·rw[Below.heap_setCell _ _ _ _ (by show w.heap.size≠w.heap.size+1;omega)];exact XW
theorem iQ.place (h:iQ ls nb op gw ow cw ws w w1 k l vp vn)(x:Nat×Nat){v':Value}(h2:Below w1.heap.size w1 w2)(jr:w3.ownsRow w.heap.size 119 2 v' (l.places.length+1) (bK l.places++[.int .i64 (x.1:Nat),.int .i64 (x.2:Nat)]))(hg:w2.grownBy w3 vp.ownBlock)
  (hs:ey ls nb (op,ws)=cY ls nb ((ae op).drop (k+1)) (ws.drop (k+1)) {l with places:=l.places++[x]}):iQ ls nb op gw ow cw ws w (w3.setCell ⟨w.heap.size+1,2,none⟩ v') (k+1) {l with places:=l.places++[x]} v' vn:=by
 have H:=h.on h2;have de:∀(g:Nat) (cs:Array Value) (e:TypeId) (f:Nat×Nat),w2.heap[g]?=some (.cells cs e f)->119≠e->w3.heap[g]?=w2.heap[g]?:=fun g cs e f yS he=>hg.block g (lt_of_heap yS) (bh H.at_.places yS he)
 have Kk:gy w3 (w.heap.size+1) l vp vn:=by unfold gy;rw[de _ _ _ _ H.ln (by decide)];exact H.ln
 have XW:w3.heap[w.heap.size]?=_:=(de _ _ _ _ H.eL (by decide)).trans H.eL;have lI:Below w.heap.size w w3:=by
  refine H.bq.grown hg H.bq.size fun k hk=> ?_
  exact(H.at_.places.lt k hk).1
 refine⟨Kk.places v' (l.places++[x]),⟨?_,?_⟩,?_,lI.trans (((bu.refl _ w3).setCell 2 v').below (by omega) lI.size),⟨by have:=h.fc;simp;omega,by have:=h.fc;simp;omega⟩,hs⟩
 ·have:=au jr (a:=⟨w.heap.size+1,2,none⟩) v' (ar jr Kk (by decide));simpa [bK,BD]using this
 ·exact au (H.at_.next.kept hg (cZ H.at_.next H.at_.places (by decide))) _ (ar (H.at_.next.kept hg (cZ H.at_.next H.at_.places (by decide))) Kk (by decide))
 ·rw[Below.heap_setCell _ _ _ _ (by show w.heap.size≠w.heap.size+1;omega)];exact XW
end
theorem H4 {ls:List (B×Nat)}{nb op gw ow cw:Nat}{ws:List B}{w w1 w2 w3:World}{k:Nat}{l:aa}{vp vn:Value}(h:iQ ls nb op gw ow cw ws w w1 k l vp vn)(h2:Below w1.heap.size w1 w2){vx:Value}{e:TypeId}{sz n:Nat}{xs:List Value}(hx:w2.ownsRow w.heap.size e sz vx n xs)(hg:w2.grownBy w3 vx.ownBlock)(he:e≠115):gy w3 (w.heap.size+1) l vp vn:=by
 have H:=h.on h2;unfold gy;rw[hg.block _ (lt_of_heap H.ln) (bh hx H.ln he)];exact H.ln
theorem fT.none {z nb:Nat}{ls:List (B×Nat)}{x:Nat×List B}{w w':World}(hb:Below w.heap.size w w')(h:ey ls nb x=none):fT z ls nb x w (.returned (.tuple #[.agg #[.int .i64 0,.int .i64 0,.slice none 0 0,.int .i64 0,.int .i64 0,.slice none 0 0],.bool false])) w':=by
 refine⟨hb,?_⟩;rw[h]
theorem fT.some {z nb:Nat}{ls:List (B×Nat)}{x:Nat×List B}{w w':World}{l:aa}{vp vn:Value}(hb:Below w.heap.size w w')(h:ey ls nb x=some l)(hl:bp z w' l vp vn):fT z ls nb x w (.returned (.tuple #[.agg #[.int .i64 (l.num:Nat),.int .i64 (l.op:Nat),vp,.int .i64 l.number,.int .i64 l.flag,vn],.bool true])) w':=by
 refine⟨hb,?_⟩;rw[h];exact⟨vp,vn,rfl,hl⟩
set_option maxRecDepth 20000 in
set_option maxHeartbeats 4000000 in
theorem Lh (ls:List (B×Nat))(nb op a gw ow cw:Nat)(ws:List B)(v u:Value)(w:World)(hp:w.heap[a]?=some (.cells #[v,u] 110 (0,0)))(hv:ma w v ls)(ic:ls.length<=4000)(_hnb:nb<=4000)(aw:op<23)(hws:ws.length=(ae op).length)(_hcw:(ae op).length<=cw)
  (UR:gw<w.heap.size) (hW:∀j,j<(ae op).length->w.cell? ⟨gw,ow+j,none⟩=some (.string (bs (word ws j)))) (hlen:∀j,(word ws j).length<=1048576) (E:Env w):
  Calls Tryz.prog 170 #[.pointer (some ⟨a,0,none⟩),.agg #[.int .i64 (op:Nat),.slice (some ⟨gw,ow,none⟩) (ae op).length cw],.int .i64 (nb:Nat)] w (fT w.heap.size ls nb (op,ws) w):=by
 obtain⟨ip,hip,hp0,B8,Wp⟩:=info_parts Kx;obtain⟨ii,hii,Z2,xS,hi2⟩:=info_parts A2;have Va:=yt op aw;have HW:Hid (ws.length=(ae op).length):=hws;clear hws;have iq:iQ ls nb op gw ow cw ws w ((w.alloc (.cells #[.int .i64 (op:Nat),.slice (some ⟨gw,ow,none⟩) (ae op).length cw] 240)).alloc (.cells #[.int .i64 0,.int .i64 (op:Nat),.slice none 0 0,.int .i64 0,.int .i64 0,.slice none 0 0] 115)) 0 ⟨0,op,[],0,0,[]⟩ (.slice none 0 0) (.slice none 0 0):=by
  refine⟨?_,⟨World.ownsRow_nil _ _ _ _,World.ownsRow_nil _ _ _ _⟩,?_,((Below.refl _ _).alloc (jC _) _).alloc (by simp) _,⟨jC _,jC _⟩,rfl⟩
  ·unfold gy;rw[show w.heap.size+1=(w.alloc (.cells #[.int .i64 (op:Nat),.slice (some ⟨gw,ow,none⟩) (ae op).length cw] 240)).heap.size by simp];exact jD
  ·rw[((Below.refl (w.heap.size+1) _).alloc (by simp) _).block w.heap.size (by omega)];exact jD
 go_enter Tryz.func170,Tryz.ntmps170
 go_wp2
 go_loopw [22] (fun i wr=>∃(k:Nat) (l:aa) (vp vn:Value),k<=(ae op).length/\i=.int .i64 k/\iQ ls nb op gw ow cw ws w wr k l vp vn) (fun i _=>(ae op).length-(intOf i).toNat)
 case atStart=>exact⟨0,_,_,_,jQ _,rfl,iq⟩
 case round=>
  obtain⟨k,l,vp,vn,hk,rfl,H⟩:=hrel;clear iq;obtain⟨c0,c1,c2,c3,c4,c5,hf⟩:=H.ln.facts;by_cases aK:k<(ae op).length
  ·have TW:wr.cell? ⟨gw,ow+k,none⟩=some (.string (bs (word ws k))):=(H.bq.cell (p:=⟨gw,ow+k,none⟩) UR).trans (hW k aK);have Oj:wr.cell? ⟨w.heap.size,0,none⟩=some (.int .i64 (op:Nat)):=by rw[cell_of_heap H.eL];rfl
   have Cr:=pX (E.on H.bq) op aw;have E1:=E.on H.bq;have hlw:=hlen k;have HS:Hid (_=_):=H.same.trans (H3 ls nb (ae op) ws k aK l);by_cases h1:(((ae op)[k].toNat:Int)==35)=true\/(((ae op)[k].toNat:Int)==118)=true
   ·have HN:Hid (_=_):=HS.out.trans (jb h1);have TN:=SO h1;clear h1 HS;have KN:=vS (word ws k) wr (by omega) E1;rcases TN with h1|⟨h1,h2⟩
    all_goals
     go_wp2_with (go_at_call 203;refine KN.mono ?_;rintro e w1 ⟨rfl,av⟩;have H1:=H.on av;obtain⟨d0,d1,d2,d3,d4,d5,hd⟩:=H1.ln.facts;have g3:=hd 3)
     go_roundw
     case rel=>
      obtain⟨t1,t2,t3⟩:=H1.BX ((bu.refl _ _).setCell 3 (.int .i64 ((dO (word ws k)).getD 0)));exact⟨k+1,{l with number:=(dO (word ws k)).getD 0},vp,vn,by omega,by go_num,H1.ln.number _,⟨t1.places,t1.next⟩,t2,t3,⟨Nat.le_succ_of_le H.fc.1,Nat.le_succ_of_le H.fc.2⟩,HN.out⟩
     case measure=>simp[intOf];omega
   ·have HN:Hid (_=_):=HS.out.trans (ja h1);simp only[not_or,Bool.not_eq_true]at h1;obtain⟨b1,b2⟩:=h1;clear HS;by_cases h2:(((ae op)[k].toNat:Int)==102)=true
    ·have Yv:Hid (_=_):=HN.out.trans (jb h2);clear HN;have KN:=AJ (word ws k) wr (by omega) E1;go_wp2_with (go_at_call 204;refine KN.mono ?_;rintro e w1 ⟨rfl,av⟩;have H1:=H.on av;obtain⟨d0,d1,d2,d3,d4,d5,hd⟩:=H1.ln.facts;have g4:=hd 4)
     go_roundw
     case rel=>
      obtain⟨t1,t2,t3⟩:=H1.BX ((bu.refl _ _).setCell 4 (.int .i64 ((az (word ws k)).getD 0)));exact⟨k+1,{l with flag:=(az (word ws k)).getD 0},vp,vn,by omega,by go_num,H1.ln.flag _,⟨t1.places,t1.next⟩,t2,t3,⟨Nat.le_succ_of_le H.fc.1,Nat.le_succ_of_le H.fc.2⟩,Yv.out⟩
     case measure=>simp[intOf];omega
    ·have Yv:Hid (_=_):=HN.out.trans (ja h2);rw[Bool.not_eq_true]at h2;clear HN;by_cases h3:(((ae op)[k].toNat:Int)==98)=true
     ·have Ub:Hid (_=_):=Yv.out.trans (jb h3);clear Yv;obtain⟨n1,n2⟩:=fW (word ws k);have KN:=yF (word ws k) wr (by omega) E1;obtain⟨m,hm⟩:∃m:Nat,(az (word ws k)).getD 0=(m:Int):=⟨((az (word ws k)).getD 0).toNat,by omega⟩;by_cases ZW:(m:Int)≥nb
      ·have hx:ey ls nb (op,ws)=none:=Ub.out.trans (jb (by rw[hm];exact ZW));rw[hm]at KN;clear Ub hm n1 n2;go_wp2_with (go_at_call 205;refine KN.mono ?_;rintro e w1 ⟨rfl,av⟩;have H1:=H.on av;obtain⟨d0,d1,d2,d3,d4,d5,hd⟩:=H1.ln.facts;have g0:=hd 0;have g1:=hd 1;have g2:=hd 2;have g3:=hd 3;have g4:=hd 4;have g5:=hd 5)
       refine Be rfl rfl H1.ln fun w3 hT=> ?_
       obtain⟨t1,t2,t3⟩:=H1.BX hT;exact fT.none t3 hx
      ·have hx:Hid (ey ls nb (op,ws)=cY ls nb ((ae op).drop (k+1)) (ws.drop (k+1)) {l with next:=l.next++[m]}):=by
        unfold Hid;rw[Ub.out,ja (by rw[hm];exact ZW),hm,Int.toNat_natCast]
       rw[hm]at KN;rw[hm]at n2;have xQ:=H.fc;clear Ub hm n1;go_wp2_with (first
        |(go_at_call 205;refine KN.mono ?_;rintro e w1 ⟨rfl,av⟩;have H1:=H.on av;obtain⟨d0,d1,d2,d3,d4,d5,hd⟩:=H1.ln.facts;have g5:=hd 5;have aX:Below w1.heap.size w1 (w1.alloc (.cells #[.int .i64 (m:Nat)] 3)):=(Below.refl _ _).alloc (jC _) _)
        |(at_builtin;go_must (refine qC rfl _ _ 113 rfl w.heap.size 3 ii (.int .i64 0) 8 Tryz.underlying113 hii Z2 xS hi2 rfl vn _ _ rfl H1.at_.next _ rfl rfl (by decide) (by omega) H1.bq.size ?_);intro g2 c2' w2 hown2 hgrow2 hat2 hlt2;have Dg:=H4 H1 aX (ax H1.at_.next aX) hgrow2 (by decide);obtain⟨e0,e1,e2,e3,e4,e5,he⟩:=Dg.facts;have g5':=he 5))
       go_roundw
       case rel=>exact⟨k+1,{l with next:=l.next++[m]},vp,_,by omega,by go_num,H1.next m aX hown2 hgrow2 hx.out⟩
       case measure=>simp[intOf];omega
     ·have Ub:Hid (_=_):=Yv.out.trans (ja h3);rw[Bool.not_eq_true]at h3;clear Yv;have KN:=ry (word ws k) wr hlw E1;generalize ((bR (word ws k)).getD ([],0)).1=nm at*;generalize ((bR (word ws k)).getD ([],0)).2=pt at*;have XQ:∀w',Below wr.heap.size wr w'->w'.heap[a]?=some (.cells #[v,u] 110 (0,0)):=fun w' hb=>by
       have aaa:=lt_of_heap hp;rw[hb.block a (jK aaa H.bq.size),H.bq.block a aaa];exact hp
      have KF:=fun w' (hb:Below wr.heap.size wr w')=>mh ls v u nm a w' (XQ w' hb) ((hv.below H.bq).below hb) ic
      have Kq:=tc ls nm 0;change-1<=dE ls nm/\dE ls nm<_ at Kq;by_cases hneg:dE ls nm<0
      ·have hx:ey ls nb (op,ws)=none:=Ub.out.trans (jb hneg);generalize dE ls nm=q at*;clear Ub Kq;go_wp2_with (first
        |(go_at_call 206;refine KN.mono ?_;rintro e w1 ⟨rfl,av⟩)
        |(go_at_call 168;refine(KF _ av).mono ?_;rintro e w2 ⟨rfl,bT⟩;have H1:=(H.on av).on bT;obtain⟨d0,d1,d2,d3,d4,d5,hd⟩:=H1.ln.facts;have g0:=hd 0;have g1:=hd 1;have g2:=hd 2;have g3:=hd 3;have g4:=hd 4;have g5:=hd 5))
       refine Be rfl rfl H1.ln fun w3 hT=> ?_
       obtain⟨t1,t2,t3⟩:=H1.BX hT;exact fT.none t3 hx
      ·obtain⟨m,hm⟩:∃m:Nat,dE ls nm=(m:Int):=⟨(dE ls nm).toNat,by omega⟩;have hx:Hid (ey ls nb (op,ws)=cY ls nb ((ae op).drop (k+1)) (ws.drop (k+1)) {l with places:=l.places++[(m,pt)]}):=by
        unfold Hid;rw[Ub.out,ja hneg,hm,Int.toNat_natCast]
       rw[hm]at KF Kq;have xQ:=H.fc;clear Ub hm hneg;go_wp2_with (first
        |(go_at_call 206;refine KN.mono ?_;rintro e w1 ⟨rfl,av⟩)
        |(go_at_call 168;refine(KF _ av).mono ?_;rintro e w2 ⟨rfl,bT⟩;have H1:=(H.on av).on bT;obtain⟨d0,d1,d2,d3,d4,d5,hd⟩:=H1.ln.facts;have g2:=hd 2;have aX:Below w2.heap.size w2 (w2.alloc (.cells #[.int .i64 (m:Nat),.int .i64 (pt:Nat)] 119)):=(Below.refl _ _).alloc (jC _) _;have qt:w.heap.size<=(w2.alloc (.cells #[.int .i64 (m:Nat),.int .i64 (pt:Nat)] 119)).heap.size:=jS H1.bq.size aX.size)
        |(at_builtin;go_must (refine kg rfl _ _ 112 rfl w.heap.size 119 ip (.agg #[.int .i64 0,.int .i64 0]) 2 16 Tryz.underlying112 hip hp0 B8 Wp rfl (by decide) vp _ _ rfl (ax H1.at_.places aX) w2.heap.size [.int .i64 (m:Nat),.int .i64 (pt:Nat)] rfl jD rfl Pa (by decide) (by omega) qt ?_);intro g3 c3' w3 hown3 hgrow3 hat3 hlt3;have Dg:=H4 H1 aX (ax H1.at_.places aX) hgrow3 (by decide);obtain⟨e0,e1,e2,e3,e4,e5,he⟩:=Dg.facts;have g2':=he 2))
       go_roundw
       case rel=>exact⟨k+1,{l with places:=l.places++[(m,pt)]},_,vn,by omega,by go_num,H1.place (m,pt) aX hown3 hgrow3 hx.out⟩
       case measure=>simp[intOf];omega
  ·have hx:ey ls nb (op,ws)=some l:=by rw[H.same,jT (by omega)];rfl
   obtain⟨ap,cp,rfl⟩:=bZ H.at_.places;obtain⟨an,cn,rfl⟩:=bZ H.at_.next;have f0:=hf 0;have f1:=hf 1;have f2:=hf 2;have f3:=hf 3;have f4:=hf 4;have f5:=hf 5;clear hf;go_wp2
   refine Be rfl rfl H.ln fun w3 hT=> ?_
   obtain⟨t1,t2,t3⟩:=H.BX hT;exact fT.some t3 hx t1
end PrjP
namespace PrjR
open Go Go.RowKit Sq Aux PrjF PrjG PrjH PrjI PrjJ PrjK PrjL PrjM PrjN PrjO PrjP
theorem sd {w:World}{v:Value}{ls:List (B×Nat)}(h:ma w v ls)(j:Nat)(hj:j<ls.length):∃g cap,v=.slice (some ⟨g,0,none⟩) ls.length cap/\ls.length<=cap/\g<w.heap.size/\w.cell? ⟨g,j*2,none⟩=some (.string (bs (ls.getD j ([],0)).1))/\w.cell? ⟨g,j*2+1,none⟩=some (.int .i64 ((ls.getD j ([],0)).2:Nat)):=by
 rcases Dl h with⟨rfl,-⟩|⟨g,cap,hv,hc,hg,aC⟩
 ·simp at hj
 ·exact⟨g,cap,hv,hc,hg,(aC j hj).1,(aC j hj).2⟩
theorem qX {q:QP}{x:Nat×Nat}{a:Nat}{b:Bool}(h1:q.br x=a)(h2:(q.kind x).isSome=b):Ending.returned (.tuple #[.int .i64 (a:Nat),.bool b])=.returned (.tuple #[.int .i64 (q.br x:Nat),.bool (q.kind x).isSome]):=by rw[h1,h2]
set_option maxRecDepth 20000 in
theorem vJ (q:QP)(x:Nat×Nat)(v u:Value)(a:Nat)(w:World)(hp:w.heap[a]?=some (.cells #[v,u] 110 (0,0)))(hv:ma w v q.locals)(_hls:q.locals.length<=4000)(hx:x.1<q.locals.length):
  Calls Tryz.prog 207 #[.pointer (some ⟨a,0,none⟩),.agg #[.int .i64 (x.1:Nat),.int .i64 (x.2:Nat)]] w fun e w'=>e=.returned (.tuple #[.int .i64 (q.br x:Nat),.bool (q.kind x).isSome])/\Below w.heap.size w w':=by
 obtain⟨g,cap,rfl,kL,hg,-,hc⟩:=sd hv x.1 hx;have aK:=lt_of_heap hp;have aX:Below w.heap.size w (w.alloc (.cells #[.int .i64 (x.1:Nat),.int .i64 (x.2:Nat)] 119)):=(Below.refl _ _).alloc (jC _) _;have c0:w.cell? ⟨a,0,none⟩=some (.slice (some ⟨g,0,none⟩) q.locals.length cap):=by rw[cell_of_heap hp];rfl
 have c0A:(w.alloc (.cells #[.int .i64 (x.1:Nat),.int .i64 (x.2:Nat)] 119)).cell? ⟨a,0,none⟩=some (.slice (some ⟨g,0,none⟩) q.locals.length cap):=(aX.cell (p:=⟨a,0,none⟩) aK).trans c0;have c1A:=(aX.cell (p:=⟨g,x.1*2+1,none⟩) hg).trans hc;have c2A:(w.alloc (.cells #[.int .i64 (x.1:Nat),.int .i64 (x.2:Nat)] 119)).cell? ⟨w.heap.size,0,none⟩=some (.int .i64 (x.1:Nat)):=by simp
 have c3A:(w.alloc (.cells #[.int .i64 (x.1:Nat),.int .i64 (x.2:Nat)] 119)).cell? ⟨w.heap.size,1,none⟩=some (.int .i64 (x.2:Nat)):=by simp
 have hxi:(x.1:Int)<q.locals.length:=by omega
 have hT:Hid ((q.locals.getD x.1 ([],0)).2=q.bA x.1):=rfl;have hd:∀n,Below w.heap.size w ((w.alloc (.cells #[.int .i64 (x.1:Nat),.int .i64 (x.2:Nat)] 119)).drewN n):=fun n=>below_drewN aX n
 generalize (q.locals.getD x.1 ([],0)).2=t at*;by_cases cf:x.2=1\/x.2=2
 ·have b12:(((x.2:Nat):Int)==1)=true\/((((x.2:Nat):Int)==1)=false/\(((x.2:Nat):Int)==2)=true):=by
   rcases cf with h|h
   ·left;rw[h];rfl
   ·right;rw[h];exact⟨rfl,rfl⟩
  have hk:q.br x=1:=by rw[QP.br,jb (by omega)]
  have hs:(q.kind x).isSome=(t==2):=by
   rw[QP.kind,jb cf,<-hT.out];by_cases ht:t=2
   ·subst ht;rfl
   ·rw[ja ht];simp[ht]
  by_cases ht:t=2
  ·have htb:(((t:Nat):Int)==2)=true:=by rw[ht];rfl
   have Oi:(q.kind x).isSome=true:=by rw[hs,ht];rfl
   clear hs ht;rcases b12 with b1|⟨b1,b2⟩
   all_goals
    go_enter Tryz.func207,Tryz.ntmps207
    go_wp2
    go_quiet (fail)
    go_wp2
    go_ret2
    exact⟨qX hk Oi,hd nq⟩
  ·have htb:(((t:Nat):Int)==2)=false:=by rw[jZ];omega
   have Oi:(q.kind x).isSome=false:=by rw[hs];simp[ht]
   clear hs ht;rcases b12 with b1|⟨b1,b2⟩
   all_goals
    go_enter Tryz.func207,Tryz.ntmps207
    go_wp2
    go_quiet (fail)
    go_wp2
    go_ret2
    exact⟨qX hk Oi,hd nq⟩
 ·have b1:(((x.2:Nat):Int)==1)=false:=by rw[jZ];omega
  have b2:(((x.2:Nat):Int)==2)=false:=by rw[jZ];omega
  by_cases h3:x.2=3
  ·have b3:(((x.2:Nat):Int)==3)=true:=by rw[h3];rfl
   have hk:q.br x=1:=by rw[QP.br,jb (by omega)]
   have hs:(q.kind x).isSome=(t==3):=by
    rw[QP.kind,ja cf,jb h3,<-hT.out];by_cases ht:t=3
    ·subst ht;rfl
    ·rw[ja ht];simp[ht]
   by_cases ht:t=3
   ·have htb:(((t:Nat):Int)==3)=true:=by rw[ht];rfl
    have Oi:(q.kind x).isSome=true:=by rw[hs,ht];rfl
    clear hs ht h3 cf;go_enter Tryz.func207,Tryz.ntmps207
    go_wp2
    go_quiet (fail)
    go_wp2
    go_ret2
    exact⟨qX hk Oi,hd nq⟩
   ·have htb:(((t:Nat):Int)==3)=false:=by rw[jZ];omega
    have Oi:(q.kind x).isSome=false:=by rw[hs];simp[ht]
    clear hs ht h3 cf;go_enter Tryz.func207,Tryz.ntmps207
    go_wp2
    go_quiet (fail)
    go_wp2
    go_ret2
    exact⟨qX hk Oi,hd nq⟩
  ·have b3:(((x.2:Nat):Int)==3)=false:=by rw[jZ];omega
   have hk:q.br x=t:=by rw[QP.br,ja (by omega),hT.out]
   have hs:(q.kind x).isSome=true:=by rw[QP.kind,ja cf,ja h3];rfl
   clear h3 cf;go_enter Tryz.func207,Tryz.ntmps207
   go_wp2
   go_quiet (fail)
   go_wp2
   go_ret2
   exact⟨qX hk hs,hd nq⟩
theorem G3 (t:Nat)(c:UInt8):gE t c=if((c.toNat:Int)==105)=true then((t:Int)==0)else if((c.toNat:Int)==111)=true then((t:Int)==3)else if((c.toNat:Int)==112)=true then((t:Int)==1)else !((t:Int)==0):=by
 have e:∀n:Nat,n<256->(((c.toNat:Int)==(n:Int))=true↔c=UInt8.ofNat n):=fun n hn=>by
  rw[kV c n hn,beq_iff_eq];omega
 have e1:=e 105 (by omega);have e2:=e 111 (by omega);have e3:=e 112 (by omega);simp only[Int.cast_ofNat_Int]at e1 e2 e3;have f:∀m:Nat,((t:Int)==(m:Int))=(t==m):=fun m=>by rw[jX,beq_iff_eq,beq_iff_eq];omega
 have f0:=f 0;have f1:=f 1;have f3:=f 3;simp only[Int.cast_ofNat_Int]at f0 f1 f3;simp only[e1,e2,e3,f0,f1,f3];rfl
set_option maxRecDepth 20000 in
theorem KZ (t:Nat)(c:UInt8)(w:World):
  Calls Tryz.prog 208 #[.int .i64 (t:Nat),.int .u8 c.toNat] w fun e w'=>e=.returned (.bool (gE t c))/\w'=w:=by
 rw[G3];cases h1:((c.toNat:Int)==105)<;>cases h2:((c.toNat:Int)==111)<;>cases h3:((c.toNat:Int)==112)
 all_goals
  go_enter Tryz.func208,Tryz.ntmps208
  go_wp2
  go_ret
  exact⟨rfl,rfl⟩
set_option maxRecDepth 20000 in
set_option maxHeartbeats 1000000 in
theorem E6 (q:QP)(x y:Nat×Nat)(v u:Value)(a:Nat)(w:World)(hp:w.heap[a]?=some (.cells #[v,u] 110 (0,0)))(hv:ma w v q.locals)(ic:q.locals.length<=4000)(hx:x.1<q.locals.length)(hy:y.1<q.locals.length):
  Calls Tryz.prog 209 #[.pointer (some ⟨a,0,none⟩),.agg #[.int .i64 (x.1:Nat),.int .i64 (x.2:Nat)],.agg #[.int .i64 (y.1:Nat),.int .i64 (y.2:Nat)]] w fun e w'=>e=.returned (.bool (q.br x==q.br y))/\Below w.heap.size w w':=by
 have aX:Below w.heap.size w ((w.alloc (.cells #[.int .i64 (x.1:Nat),.int .i64 (x.2:Nat)] 119)).alloc (.cells #[.int .i64 (y.1:Nat),.int .i64 (y.2:Nat)] 119)):=((Below.refl _ _).alloc (jC _) _).alloc (by simp) _;have B9:((w.alloc (.cells #[.int .i64 (x.1:Nat),.int .i64 (x.2:Nat)] 119)).alloc (.cells #[.int .i64 (y.1:Nat),.int .i64 (y.2:Nat)] 119)).heap.size=w.heap.size+2:=by simp
 have aK:=lt_of_heap hp;have KK:=fun(z:Nat×Nat) (hz:z.1<q.locals.length) (w':World) (hb:Below w.heap.size w w')=>vJ q z v u a w' (by rw[hb.block a aK];exact hp) (hv.below hb) ic hz
 have d1:∀w',Below ((w.alloc (.cells #[.int .i64 (x.1:Nat),.int .i64 (x.2:Nat)] 119)).alloc (.cells #[.int .i64 (y.1:Nat),.int .i64 (y.2:Nat)] 119)).heap.size ((w.alloc (.cells #[.int .i64 (x.1:Nat),.int .i64 (x.2:Nat)] 119)).alloc (.cells #[.int .i64 (y.1:Nat),.int .i64 (y.2:Nat)] 119)) w'->w'.cell? ⟨w.heap.size+1,0,none⟩=some (.int .i64 (y.1:Nat))/\w'.cell? ⟨w.heap.size+1,1,none⟩=some (.int .i64 (y.2:Nat)):=fun w' hb=>
  ⟨(hb.cell (p:=⟨w.heap.size+1,0,none⟩) (by show w.heap.size+1<_;omega)).trans (by simp),(hb.cell (p:=⟨w.heap.size+1,1,none⟩) (by show w.heap.size+1<_;omega)).trans (by simp)⟩
 have KX:=KK x hx _ aX;have KY:=fun w' hb=>KK y hy w' hb
 rw[show(q.br x==q.br y)=(((q.br x:Nat):Int)==((q.br y:Nat):Int)) by rw[jX,beq_iff_eq,beq_iff_eq];omega];clear B9 KK;generalize q.br x=kx at*;generalize q.br y=ky at*;generalize (q.kind x).isSome=bx at*;generalize (q.kind y).isSome=by_ at*;go_enter Tryz.func209,Tryz.ntmps209
 go_wp2_with (first
  |(go_at_call 207;refine(KY _ lu).mono ?_;rintro e w2 ⟨rfl,bT⟩)
  |(go_at_call 207;refine KX.mono ?_;rintro e w1 ⟨rfl,av⟩;have lu:=aX.trans (av.mono aX.size);obtain⟨y0,y1⟩:=d1 _ av))
 go_ret
 exact⟨rfl,lu.trans (bT.mono lu.size)⟩
end PrjR
namespace PrjS
open Go Go.RowKit Sq PrjF PrjG PrjH
def sL (c:UInt8):Bool:= !(c==35)&& !(c==118)&& !(c==102)&& !(c==98)
structure tR (nl nb:Nat)(l:aa):Prop where
 op:l.op<23
 op2:2<=l.op
 places:∀x∈l.places,x.1<nl/\x.2<=3
 cP:l.places.length=((ae l.op).filter sL).length
 next:∀n∈l.next,n<nb
 EP:l.next.length=((ae l.op).filter (·==98)).length
 flag:0<=l.flag/\l.flag<=1000000000
 number: -1000000000<=l.number/\l.number<=1000000000
theorem tR.mono {nl nl' nb:Nat}{l:aa}(h:tR nl nb l)(hn:nl<=nl'):tR nl' nb l:=
 ⟨h.op,h.op2,fun x hx=>⟨jK (h.places x hx).1 hn,(h.places x hx).2⟩,h.cP,h.next,h.EP,h.flag,h.number⟩
theorem VH (w:B):((bR w).getD ([],0)).2<=3:=by
 rw[bR];split
 ·simp
 ·repeat (first|(split;simp)|simp)
theorem Dx (w:B): -1000000000<=(dO w).getD 0/\(dO w).getD 0<=1000000000:=by
 cases w with
 |nil=>decide
 |cons c r=>
  rw[dO];split
  ·have:=fW r;cases hd:az r with
   |none=>simp
   |some n=>
    rw[hd]at this;simp only[Option.getD_some]at this;by_cases hn:n=0
    ·simp[hn]
    ·simp[hn];omega
  ·have:=fW (c::r);constructor<;>omega
theorem ez {ls:List (B×Nat)}{n:B}(h:¬dE ls n<0):(dE ls n).toNat<ls.length:=by
 have:=tc ls n 0;change-1<=dE ls n/\dE ls n<_ at this;omega
theorem l6 (ls:List (B×Nat))(nb:Nat):∀(f:B) (ws:List B) (l0 l:aa),cY ls nb f ws l0=some l->(∀x∈l0.places,x.1<ls.length/\x.2<=3)->(∀n∈l0.next,n<nb)->(0<=l0.flag/\l0.flag<=1000000000)->(-1000000000<=l0.number/\l0.number<=1000000000)->
  l.op=l0.op/\l.num=l0.num/\(∀x∈l.places,x.1<ls.length/\x.2<=3)/\(∀n∈l.next,n<nb)/\l.places.length=l0.places.length+(f.filter sL).length/\l.next.length=l0.next.length+(f.filter (·==98)).length/\(0<=l.flag/\l.flag<=1000000000)/\(-1000000000<=l.number/\l.number<=1000000000)
 |[],ws,l0,l,h,h1,h2,h3,h4=>by
  simp only[cY,Option.some.injEq]at h;subst h;exact⟨rfl,rfl,h1,h2,rfl,rfl,h3,h4⟩
 |c::f,ws,l0,l,h,h1,h2,h3,h4=>by
  rw[cY]at h;by_cases c1:c=35\/c=118
  ·rw[jb c1]at h;have ih:=l6 ls nb f (ws.drop 1) _ l h h1 h2 h3 (Dx _);have e1:sL c=false:=by rcases c1 with rfl|rfl<;>rfl
   have e2:(c==98)=false:=by rcases c1 with rfl|rfl<;>rfl
   simpa [List.filter_cons,e1,e2]using ih
  ·rw[ja c1]at h;by_cases c2:c=102
   ·rw[jb c2]at h;have ih:=l6 ls nb f (ws.drop 1) _ l h h1 h2 (fW _) h4;subst c2;have e1:sL 102=false:=rfl;simpa [List.filter_cons,e1]using ih
   ·rw[ja c2]at h;by_cases c3:c=98
    ·rw[jb c3]at h;split at h
     ·cases h
     ·rename_i hn;have hd:=fW (word ws 0);have ih:=l6 ls nb f (ws.drop 1) _ l h h1 (fun n YS=>by
       simp only[List.mem_append,List.mem_singleton]at YS;rcases YS with YS|YS
       ·exact h2 n YS
       ·omega) h3 h4
      subst c3;have e1:sL 98=false:=rfl;obtain⟨i1,i2,i3,i4,i5,i6,i7,i8⟩:=ih;refine⟨i1,i2,i3,i4,by rw[i5];simp[e1],by rw[i6];simp;omega,i7,i8⟩
    ·rw[ja c3]at h;split at h
     ·cases h
     ·rename_i hn;have ih:=l6 ls nb f (ws.drop 1) _ l h (fun x hx=>by
       simp only[List.mem_append,List.mem_singleton]at hx;rcases hx with hx|rfl
       ·exact h1 x hx
       ·exact⟨ez hn,VH _⟩) h2 h3 h4
      simp only[not_or]at c1;have e1:sL c=true:=by simp[sL,c1.1,c1.2,c2,c3]
      have e2:(c==98)=false:=by simp[c3]
      obtain⟨i1,i2,i3,i4,i5,i6,i7,i8⟩:=ih;refine⟨i1,i2,i3,i4,by rw[i5];simp[e1];omega,by rw[i6];simp[e2],i7,i8⟩
theorem Sf {ls:List (B×Nat)}{nb:Nat}{x:Nat×List B}{l:aa}(h:ey ls nb x=some l)(h1:x.1<23)(h2:2<=x.1):tR ls.length nb l:=by
 rw[ey]at h;obtain⟨i1,-,i3,i4,i5,i6,i7,i8⟩:=l6 ls nb _ _ _ _ h (by simp) (by simp) (by simp) (by simp);simp only at i1;exact⟨by rw[i1];exact h1,by rw[i1];exact h2,i3,by rw[i1,i5];simp,i4,by rw[i1,i6];simp,i7,i8⟩
structure Jw (nb:Nat)(q:QP):Prop where
 types:∀x∈q.locals,x.2<=3
 lines:∀b∈q.blocks,∀l∈b,tR q.locals.length nb l
theorem TB {w:B}{n:Nat}(h:gM w=some n):n<4:=by
 have:=(A1 _ _ _ _ h).2.1;simpa [j0]using this
theorem ty_le (w:B):(gM w).getD 0<=3:=by
 cases h:gM w with
 |none=>simp
 |some k=>have:=TB h;simp;omega
theorem oT (nb:Nat):∀(S:List (Nat×List B)) (i:Nat) (q0 q:QP),ba nb S i q0=(q,none)->(∀x∈S,x.1<23)->Jw nb q0->Jw nb q
 |[],i,q0,q,h,_,h0=>by
  simp only[ba,Prod.mk.injEq,and_true]at h;subst h;exact h0
 |x::r,i,q0,q,h,hx,h0=>by
  have hr:∀y∈r,y.1<23:=fun y hy=>hx y (jN _ hy)
  have Ju:=hx x (jM ..);rw[ba]at h;by_cases e0:x.1=0
  ·rw[jb e0]at h;split at h
   ·cases h
   ·refine oT nb r (i+1) _ q h hr ⟨fun y hy=> ?_,fun b hb l hl=>(h0.lines b hb l hl).mono (by simp[QP.addLocal])⟩;simp only[QP.addLocal,List.mem_append,List.mem_singleton]at hy;rcases hy with hy|rfl
    ·exact h0.types y hy
    ·exact ty_le _
  ·rw[ja e0]at h;by_cases e1:x.1=1
   ·rw[jb e1]at h;refine oT nb r (i+1) _ q h hr ⟨h0.types,fun b hb l hl=> ?_⟩;simp only[QP.addBlock,List.mem_append,List.mem_singleton]at hb;rcases hb with hb|rfl
    ·exact h0.lines b hb l hl
    ·cases hl
   ·rw[ja e1]at h;cases hl:ey q0.locals nb x with
    |none=>rw[hl]at h;cases h
    |some l=>
     rw[hl]at h;have ok:=Sf hl Ju (by omega);have ok':tR q0.locals.length nb {l with num:=i}:=⟨ok.op,ok.op2,ok.places,ok.cP,ok.next,ok.EP,ok.flag,ok.number⟩;refine oT nb r (i+1) _ q h hr ⟨h0.types,fun b hb y hy=> ?_⟩;simp only[QP.addLine,List.mem_append,List.mem_singleton]at hb;rcases hb with hb|rfl
     ·exact h0.lines b (List.dropLast_subset _ hb) y hy
     ·simp only[List.mem_append,List.mem_singleton]at hy;rcases hy with hy|rfl
      ·rw[List.getLastD_eq_getLast?]at hy;cases hq:q0.blocks.getLast? with
       |none=>rw[hq]at hy;simp at hy
       |some b'=>
        rw[hq]at hy;exact h0.lines b' (List.mem_of_getLast? hq) y hy
      ·exact ok'
end PrjS
end Go.Proofs.YtmlgajhhnojdjaaGreatDoor

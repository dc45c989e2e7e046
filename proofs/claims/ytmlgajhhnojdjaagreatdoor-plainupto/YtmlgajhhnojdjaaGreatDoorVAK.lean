import Derived.Test.YtmlgajhhnojdjaaGreatDoorVAI
namespace Go.Proofs.YtmlgajhhnojdjaaGreatDoor
namespace PrjN
open Go Go.RowKit Sq Aux PrjF PrjG PrjH PrjI PrjJ PrjK PrjL
def cO (raw:Bool)(L:List B)(w:World)(e:Ending)(w':World):Prop:=
 Below w.heap.size w w'/\match ar raw (L.map (split 32)) ⟨0,0,0⟩ 0 with
  |(_,_,some k)=>e=.returned (.tuple #[.slice none 0 0,.int .i64 (k:Nat),.bool false])
  |(S,o,none)=>∃v vs,e=.returned (.tuple #[v,.int .i64 (L.length:Nat),.bool (decide (o.sec=2))])/\bT w.heap.size w' v S vs
theorem cO.bad {raw:Bool}{L:List B}{w w':World}{k:Nat}(hb:Below w.heap.size w w')(h:(ar raw (L.map (split 32)) ⟨0,0,0⟩ 0).2.2=some k):cO raw L w (.returned (.tuple #[.slice none 0 0,.int .i64 (k:Nat),.bool false])) w':=by
 refine⟨hb,?_⟩;generalize ar raw (L.map (split 32)) ⟨0,0,0⟩ 0=R at h;obtain⟨S,o,x⟩:=R;simp only at h;subst h;rfl
theorem cO.B8 {raw:Bool}{L:List B}{w w':World}{S:List (Nat×List B)}{o:di}{v:Value}{vs:List Value}(hb:Below w.heap.size w w')(h:ar raw (L.map (split 32)) ⟨0,0,0⟩ 0=(S,o,none))(hs:bT w.heap.size w' v S vs):cO raw L w (.returned (.tuple #[v,.int .i64 (L.length:Nat),.bool (decide (o.sec=2))])) w':=by
 refine⟨hb,?_⟩;rw[h];exact⟨v,vs,rfl,hs⟩
theorem GF {w:World}{u:Value}{L:List B}(h:dO w u L):u.oneCell'=true:=by
 obtain⟨g,o,cap,rfl,-⟩:=h;rfl
theorem LQ {n:Int}{u:Value}(h:u.oneCell'=true):∀u'∈[Value.int .i64 n,u],u'.oneCell'=true:=by
 intro u' hu;simp at hu;rcases hu with rfl|rfl
 ·rfl
 ·exact h
theorem Dr {b:Nat}{w w':World}{v:Value}{L:List B}(h:dO w v L)(hb:aW b w w'){raw:Bool}{ln mb:Nat}{o:di}(ho:cj w b raw ln mb o):dO w' v L:=
 kX h fun g cs f hg=>hb.block g (lt_of_heap hg) (fun x=>by
  subst x;unfold cj at ho;rw[ho]at hg;simp only[Option.some.injEq,Obj.cells.injEq]at hg;exact absurd hg.2.1 (by decide))
theorem C6 {b:Nat}{w w':World}{x y:Value}(hb:aW b (w.alloc (.cells #[x,y] 240)) w')(c8:b<w.heap.size):w'.cell? ⟨w.heap.size,0,none⟩=some x/\w'.cell? ⟨w.heap.size,1,none⟩=some y:=by
 have h0:(w.alloc (.cells #[x,y] 240)).heap[w.heap.size]?=some (.cells #[x,y] 240 (0,0)):=jD;have h1:w'.heap[w.heap.size]?=some (.cells #[x,y] 240 (0,0)):=(hb.block _ (lt_of_heap h0) (by omega)).trans h0;exact⟨by rw[cell_of_heap h1];rfl,by rw[cell_of_heap h1];rfl⟩
theorem Fc:(Tryz.prog.info? 240).map (fun i=>(i.zero,i.size,i.bytes))=some (some (.agg #[.int .i64 0,.slice none 0 0]),2,32):=by kernel_rfl
set_option maxRecDepth 20000 in
set_option maxHeartbeats 1000000 in
theorem Gp (raw:Bool)(ln g cap:Nat)(L:List B)(w:World)(hL:L.length<=4000)(_hcap:L.length<=cap)(hg:g<w.heap.size)(aQ:∀j,j<L.length->w.cell? ⟨g,j,none⟩=some (.string (bs (word L j))))(hlen:∀j,(word L j).length<=1048576)(E:Env w):
  Calls Tryz.prog 115 #[.agg #[.bool raw,.int .i64 ln,.int .i64 (if raw then 2000 else 20:Nat)],.slice (some ⟨g,0,none⟩) L.length cap] w (cO raw L w):=by
 obtain⟨i0,Uc,yw,oY,oZ⟩:=info_parts Fc;have KA:=fun(op:Nat) (o:di) (w':World)=>BS raw ln (w.heap.size+1) op o w'
 generalize (if raw then 2000 else 20:Nat)=mb at KA⊢;have mV:Below w.heap.size w ((w.alloc (.cells #[.bool raw,.int .i64 ln,.int .i64 mb] 130)).alloc (.cells #[.bool raw,.int .i64 ln,.int .i64 mb,.int .i64 0,.int .i64 0,.int .i64 0] 238)):=((Below.refl _ _).alloc (jC _) _).alloc (by simp) _;have Mo:cj ((w.alloc (.cells #[.bool raw,.int .i64 ln,.int .i64 mb] 130)).alloc (.cells #[.bool raw,.int .i64 ln,.int .i64 mb,.int .i64 0,.int .i64 0,.int .i64 0] 238)) (w.heap.size+1) raw ln mb ⟨0,0,0⟩:=by
  unfold cj;rw[show w.heap.size+1=(w.alloc (.cells #[.bool raw,.int .i64 ln,.int .i64 mb] 130)).heap.size by simp];exact jD
 go_enter Tryz.func115,Tryz.ntmps115
 go_wp2
 go_loopw [4,16] (fun v i wr=>∃(k:Nat) (done:List (Nat×List B)) (o:di) (vs:List Value),k<=L.length/\i=.int .i64 k/\cj wr (w.heap.size+1) raw ln mb o/\bT w.heap.size wr v done vs/\Below w.heap.size w wr/\Hid (iG raw (L.map (split 32)) k done o)) (fun _ i _=>L.length-(intOf i).toNat)
 case atStart=>exact⟨0,[],⟨0,0,0⟩,[],jQ _,rfl,Mo,bT.nil _ _,mV,iG.start raw _⟩
 case round=>
  obtain⟨k,done,o,vs,hk,rfl,hO,hS,hB,HA⟩:=hrel;clear mV Mo;by_cases aP:k<L.length
  ·have NL:wr.cell? ⟨g,k,none⟩=some (.string (bs (word L k))):=(hB.cell (p:=⟨g,k,none⟩) hg).trans (aQ k aP);have KS:=tO (word L k) wr (hlen k) (E.on hB);have Ie:k<(L.map (split 32)).length:=by simpa using aP
   have Ah:Hid ((L.map (split 32))[k]=split 32 (word L k)):=by
    unfold Hid;simp[word,aP]
   have gP:w.heap.size+1<wr.heap.size:=lt_of_heap hO;cases hx:bW (split 32 (word L k))with
   |none=>
    have NI:=HA.out.bad Ie (by rw[Ah.out];exact hx);unfold gU at KS;rw[hx]at KS;clear hx;go_wp2_with (go_at_call 163;refine KS.mono ?_;rintro e w1 ⟨aB,rfl⟩)
    go_ret3
    exact cO.bad ((hB.trans (aB.mono hB.size)).alloc (jS hB.size aB.size) _) NI
   |some x=>
    obtain⟨-,N2⟩:=kR hx;have aH:=ij N2;have rG:=HA.out.jt;have MC:=HA.out.len;unfold gU at KS;rw[hx]at KS
    replace KS:Calls Tryz.prog 163 #[.string (bs (word L k))] wr fun e w'=>Below wr.heap.size wr w'/\∃gw ow cw,e=.returned (.tuple #[.agg #[.int .i64 (x.1:Nat),.slice (some ⟨gw,ow,none⟩) x.2.length cw],.bool true])/\dO w' (.slice (some ⟨gw,ow,none⟩) x.2.length cw) x.2:=
     KS.mono fun e w' ⟨h1,v,h2,h3⟩=>by
      have Nr:=h3;obtain⟨gw,ow,cw,rfl,-⟩:=Nr;exact⟨h1,gw,ow,cw,h2,h3⟩
    cases ha:(aq raw o x.1).2 with
    |false=>
     have NI:=HA.out.out Ie (by rw[Ah.out];exact hx) ha;have KB:∀w',cj w' (w.heap.size+1) raw ln mb o->w.heap.size+1<w'.heap.size->Calls Tryz.prog 164 #[.pointer (some ⟨w.heap.size+1,0,none⟩),.int .i64 x.1] w' fun e w''=>e=.returned (.bool false)/\cj w'' (w.heap.size+1) raw ln mb (aq raw o x.1).1/\aW (w.heap.size+1) w' w'':=fun w' h1 h2=>by
      have:=KA x.1 o w' h1 aH (by omega) (by omega) h2;unfold dA at this
      rwa [ha]at this
     clear hx ha N2 MC rG KA;go_wp2_with (first
      |(go_at_call 163;refine KS.mono ?_;rintro e w1 ⟨aB,gw,ow,cw,rfl,hu⟩;have oG:w.heap.size+1<(w1.alloc (.cells #[.int .i64 (x.1:Nat),.slice (some ⟨gw,ow,none⟩) x.2.length cw] 240)).heap.size:=(by have:=aB.size;simp;omega);have P4:=hO.below (aB.alloc aB.size (.cells #[.int .i64 (x.1:Nat),.slice (some ⟨gw,ow,none⟩) x.2.length cw] 240)) gP)
      |(go_at_call 164;refine(KB _ P4 oG).mono ?_;rintro e w2 ⟨rfl,fB,jk⟩))
     go_ret3
     exact cO.bad ((hB.trans ((aB.alloc aB.size _).mono hB.size)).trans (jk.below (by omega) (by omega))) NI
    |true=>
     have WB:Hid (iG raw (L.map (split 32)) (k+1) (done++[x]) (aq raw o x.1).1):=HA.out.on Ie (by rw[Ah.out];exact hx) ha;have KB:∀w',cj w' (w.heap.size+1) raw ln mb o->w.heap.size+1<w'.heap.size->Calls Tryz.prog 164 #[.pointer (some ⟨w.heap.size+1,0,none⟩),.int .i64 x.1] w' fun e w''=>e=.returned (.bool true)/\cj w'' (w.heap.size+1) raw ln mb (aq raw o x.1).1/\aW (w.heap.size+1) w' w'':=fun w' h1 h2=>by
      have:=KA x.1 o w' h1 aH (by omega) (by omega) h2;unfold dA at this
      rwa [ha]at this
     clear hx ha N2 rG KA;go_wp2_with (first
      |(go_at_call 163;refine KS.mono ?_;rintro e w1 ⟨aB,gw,ow,cw,rfl,hu⟩;have oG:w.heap.size+1<(w1.alloc (.cells #[.int .i64 (x.1:Nat),.slice (some ⟨gw,ow,none⟩) x.2.length cw] 240)).heap.size:=(by have:=aB.size;simp;omega);have P4:=hO.below (aB.alloc aB.size (.cells #[.int .i64 (x.1:Nat),.slice (some ⟨gw,ow,none⟩) x.2.length cw] 240)) gP)
      |(go_at_call 164;refine(KB _ P4 oG).mono ?_;rintro e w2 ⟨rfl,fB,jk⟩;have UH:=C6 jk (by have:=aB.size;omega);obtain⟨GO,mZ⟩:=UH;have mN:=(hS.below (aB.alloc aB.size (.cells #[.int .i64 (x.1:Nat),.slice (some ⟨gw,ow,none⟩) x.2.length cw] 240))).iF jk P4;have YQ:=GF hu;have TQ:w.heap.size<=w2.heap.size:=(by have:=jk.size;omega))
      |(at_builtin;go_must (refine fF rfl _ _ 193 rfl w.heap.size 240 i0 (.agg #[.int .i64 0,.slice none 0 0]) 2 32 Tryz.underlying193 Uc yw oY oZ rfl (by decide) _ _ _ rfl (al mN.row ((Below.refl _ _).alloc (jC _) (.cells #[.int .i64 (x.1:Nat),.slice (some ⟨gw,ow,none⟩) x.2.length cw] 240))) w2.heap.size [.int .i64 (x.1:Nat),.slice (some ⟨gw,ow,none⟩) x.2.length cw] rfl jD rfl (LQ YQ) (by decide) (by omega) (by simp;omega) ?_);intro g3 c3 w3 hown3 jm hat3 hlt3))
     go_roundw
     case rel=>
      have H4:Below w2.heap.size w2 (w2.alloc (.cells #[.int .i64 (x.1:Nat),.slice (some ⟨gw,ow,none⟩) x.2.length cw] 240)):=(Below.refl _ _).alloc (jC _) _;have dp:Below w.heap.size w w2:=(hB.trans ((aB.alloc aB.size _).mono hB.size)).trans (jk.below (by omega) (by omega));have UJ:=Dr (hu.below ((Below.refl _ _).alloc (jC _) (.cells #[.int .i64 (x.1:Nat),.slice (some ⟨gw,ow,none⟩) x.2.length cw] 240))) jk P4;have Si:=fB.below H4 (lt_of_heap fB);have Ac:=mN.more x UJ H4 hown3 jm;rw[MC]at Ac;refine⟨k+1,done++[x],(aq raw o x.1).1,vs++[.slice (some ⟨gw,ow,none⟩) x.2.length cw],by omega,by go_num,?_,Ac,cq dp (jC _) dp.size mN.row jm,WB⟩;unfold cj at Si⊢;rw[jm.block _ (lt_of_heap Si) (aF (al mN.row H4) Si (by decide))];exact Si
     case measure=>simp[intOf];omega
  ·have hw:=HA.out.whole (by simpa using aP);have KD:=fun w' (h:cj w' (w.heap.size+1) raw ln mb o)=>Hg raw ln mb (w.heap.size+1) o w' h
   go_wp2_with (go_at_call 165;refine(KD _ hO).mono ?_;rintro e wd ⟨rfl,rfl⟩)
   go_ret3
   exact cO.B8 hB hw hS
end PrjN
namespace PrjO
open Go Go.RowKit Sq Aux PrjF PrjG PrjH PrjI PrjJ PrjK PrjL PrjM PrjN
theorem C7 {z:Nat}{w:World}{v:Value}{S:List (Nat×List B)}{vs:List Value}(h:bT z w v S vs)(hn:0<S.length):∃g cap,v=.slice (some ⟨g,0,none⟩) S.length cap/\S.length<=cap/\g<w.heap.size:=by
 obtain⟨g,cap,hv,hc,hg,-⟩:=bL h.row hn;exact⟨g,cap,hv,hc,hg⟩
theorem q8 {z:Nat}{w:World}{g cap:Nat}{S:List (Nat×List B)}{vs:List Value}(h:bT z w (.slice (some ⟨g,0,none⟩) S.length cap) S vs)(j:Nat)(hj:j<S.length):
  w.cell? ⟨g,j*2,none⟩=some (.int .i64 ((S.getD j (0,[])).1:Nat))/\∃gw ow cw,w.cell? ⟨g,j*2+1,none⟩=some (.slice (some ⟨gw,ow,none⟩) (S.getD j (0,[])).2.length cw)/\dO w (.slice (some ⟨gw,ow,none⟩) (S.getD j (0,[])).2.length cw) (S.getD j (0,[])).2:=by
 obtain⟨g',cap',hv,-,-,h1,h2⟩:=h.at j hj;simp only[Value.slice.injEq,Option.some.injEq,Addr.mk.injEq,and_true,true_and]at hv;obtain⟨rfl,rfl⟩:=hv;have h3:=h.each j hj;have Nr:=h3;obtain⟨gw,ow,cw,e,-⟩:=Nr;rw[e]at h2 h3;exact⟨h1,gw,ow,cw,h2,h3⟩
theorem iJ (S:List (Nat×List B))(k:Nat)(hk:k<S.length):countB (S.take (k+1))=countB (S.take k)+if(S.getD k (0,[])).1=1 then 1 else 0:=by
 unfold countB;rw[List.take_add_one,jB hk,Option.toList_some,List.filter_append,jV];congr 1;have:S.getD k (0,[])=S[k]:=by simp[List.getD_eq_getElem?_getD,hk]
 rw[this];by_cases h:S[k].1=1
 ·rw[jb h];simp[h]
 ·rw[ja h];simp[h]
theorem countB_le (S:List (Nat×List B)):countB S<=S.length:=List.length_filter_le ..
set_option maxRecDepth 20000 in
theorem rq {z g cap:Nat}{S:List (Nat×List B)}{vs:List Value}(w:World)(h:bT z w (.slice (some ⟨g,0,none⟩) S.length cap) S vs)(hS:S.length<=4000)(_hcap:S.length<=cap):
  Calls Tryz.prog 167 #[.slice (some ⟨g,0,none⟩) S.length cap] w fun e w'=>e=.returned (.int .i64 (countB S:Nat))/\Below w.heap.size w w':=by
 go_enter Tryz.func167,Tryz.ntmps167
 go_wp2
 go_loopw [3,8] (fun n i wr=>∃(k c:Nat),k<=S.length/\c<=k/\i=.int .i64 k/\n=.int .i64 c/\Below w.heap.size w wr/\Hid (c=countB (S.take k))) (fun _ i _=>S.length-(intOf i).toNat)
 case atStart=>exact⟨0,0,jQ _,jC _,rfl,rfl,Below.refl _ _,rfl⟩
 case round=>
  obtain⟨k,c,hk,hc,rfl,rfl,hB,HC⟩:=hrel;by_cases aP:k<S.length
  ·obtain⟨h1,gw,ow,cw,h2,-⟩:=q8 (h.below hB) k aP;have HS:Hid (_=_):=iJ S k aP;by_cases h1b:(S.getD k (0,[])).1=1
   ·have aB:(((S.getD k (0,[])).1:Int)==1)=true:=by rw[h1b];rfl
    have HQ:Hid ((S.getD k (0,[])).1=1):=h1b;clear h1b;generalize (S.getD k (0,[])).1=op at*;go_wp2
    go_roundw
    case rel=>exact⟨k+1,c+1,by omega,by omega,by go_num,by go_num,hB.alloc hB.size _,by unfold Hid;rw[HS.out,jb HQ.out,HC.out]⟩
    case measure=>simp[intOf];omega
   ·have aB:(((S.getD k (0,[])).1:Int)==1)=false:=by rw[jZ];omega
    have HQ:Hid (¬(S.getD k (0,[])).1=1):=h1b;clear h1b;generalize (S.getD k (0,[])).1=op at*;go_wp2
    go_roundw
    case rel=>exact⟨k+1,c,by omega,by omega,by go_num,by go_num,hB.alloc hB.size _,by unfold Hid;rw[HS.out,ja HQ.out,HC.out];rfl⟩
    case measure=>simp[intOf];omega
  ·go_wp2
   go_ret
   have e:=HC.out;rw[List.take_of_length_le (by omega)]at e;exact⟨by rw[e];rfl,hB⟩
def eT (w:World)(v:Value)(ls:List (B×Nat)):Prop:=∃z,w.ownsRow z 146 2 v ls.length (lZ ls)
theorem eT.below {w w':World}{v:Value}{ls:List (B×Nat)}(h:eT w v ls)(hb:Below w.heap.size w w'):eT w' v ls:=by
 obtain⟨z,h⟩:=h;exact⟨z,al h hb⟩
theorem mE {w:World}{v:Value}{ls:List (B×Nat)}(h:eT w v ls):(ls=[]/\v=.slice none 0 0)\/∃g cap,v=.slice (some ⟨g,0,none⟩) ls.length cap/\ls.length<=cap/\g<w.heap.size/\∀j,j<ls.length->w.cell? ⟨g,j*2,none⟩=some (.string (bs (ls.getD j ([],0)).1))/\w.cell? ⟨g,j*2+1,none⟩=some (.int .i64 ((ls.getD j ([],0)).2:Nat)):=by
 obtain⟨z,h⟩:=h;rcases h.2 with⟨hv,hn⟩|⟨g,cap,cur,hv,hz,hg,hc,hm,hs,ht⟩
 ·exact .inl ⟨List.eq_nil_of_length_eq_zero hn,hv⟩
 ·refine .inr ⟨g,cap,hv,hc,lt_of_heap hg,fun j hj=> ?_⟩;have key:∀c,c<2->w.cell? ⟨g,j*2+c,none⟩=(sc (ls.getD j ([],0)))[c]?:=fun c vq=>by
   rw[cell_of_heap hg];have:(cur.toList.take (ls.length*2))[j*2+c]?=cur[j*2+c]?:=by
    rw[List.getElem?_take,jb (by omega)];simp
   rw[<-this,ht,lZ,fk sc 2 (fun _=>rfl) ls j c vq];simp[hj]
  exact⟨key 0 (by decide),key 1 (by decide)⟩
theorem B1 (ls:List (B×Nat))(n:B)(k:Nat)(hk:k<ls.length):bj (ls.drop k) n k=if(ls.getD k ([],0)).1=n then(k:Int)else bj (ls.drop (k+1)) n (k+1):=by
 rw[jE hk,bj];have:ls.getD k ([],0)=ls[k]:=by simp[List.getD_eq_getElem?_getD,hk]
 rw[this]
theorem At (a n:B)(t:Int)(b:Nat)(w:World)(hn:w.cell? ⟨b,0,none⟩=some (.string (bs n)))(hb:b<w.heap.size):
  Calls Tryz.prog 202 #[.agg #[.string (bs a),.int .i64 t],.pointer (some ⟨b,0,none⟩)] w fun e w'=>e=.returned (.bool (a==n))/\Below w.heap.size w w':=by
 have ht:=bp a;have Wo:=bp n;have c8:b≠w.heap.size:=by omega
 go_enter Tryz.func202,Tryz.ntmps202
 go_wp2
 go_ret
 exact⟨rfl,(Below.refl _ _).alloc (jC _) _⟩
set_option maxRecDepth 20000 in
theorem vN (ls:List (B×Nat))(v:Value)(n:B)(b:Nat)(w:World)(hv:eT w v ls)(dS:ls.length<=4000)(hn:w.cell? ⟨b,0,none⟩=some (.string (bs n)))(hb:b<w.heap.size):
  Calls Tryz.prog 201 #[v,.func (.func 202) #[] #[.pointer (some ⟨b,0,none⟩)]] w fun e w'=>e=.returned (.int .i64 (cE ls n))/\Below w.heap.size w w':=by
 rcases mE hv with⟨rfl,rfl⟩|⟨g,cap,rfl,gK,hg,aQ⟩
 ·go_enter Tryz.func201,Tryz.ntmps201
  go_wp2
  go_loopw [8] (fun i wr=>i=.int .i64 0/\wr=w) (fun _ _=>0)
  case atStart=>exact⟨rfl,rfl⟩
  case round=>
   obtain⟨rfl,rfl⟩:=hrel;go_wp2
   go_ret
   exact⟨rfl,Below.refl _ _⟩
 ·have HF:Hid (cE ls n=bj (ls.drop 0) n 0):=rfl;go_enter Tryz.func201,Tryz.ntmps201
  go_wp2
  go_loopw [8] (fun i wr=>∃k:Nat,k<=ls.length/\i=.int .i64 k/\Below w.heap.size w wr/\Hid (cE ls n=bj (ls.drop k) n k)) (fun i _=>ls.length-(intOf i).toNat)
  case atStart=>exact⟨0,jQ _,rfl,Below.refl _ _,HF⟩
  case round=>
   obtain⟨k,hk,rfl,hB,HI⟩:=hrel;by_cases aP:k<ls.length
   ·obtain⟨h1,h2⟩:=aQ k aP;have c1:=(hB.cell (p:=⟨g,k*2,none⟩) hg).trans h1;have c2:=(hB.cell (p:=⟨g,k*2+1,none⟩) hg).trans h2;have cn:=(hB.cell (p:=⟨b,0,none⟩) hb).trans hn;have HS:Hid (_=_):=B1 ls n k aP;have KL:=At (ls.getD k ([],0)).1 n ((ls.getD k ([],0)).2:Nat) b wr cn (jK hb hB.size);clear h1 h2 aQ;generalize (ls.getD k ([],0)).1=a at*;generalize (ls.getD k ([],0)).2=t at*;by_cases hq:a=n
    ·have BN:(a==n)=true:=by simp[hq]
     have HQ:Hid (a=n):=hq;rw[BN]at KL;clear hq BN;go_wp2_with (go_at_call 202;refine KL.mono ?_;rintro e w1 ⟨rfl,aB⟩)
     go_ret
     exact⟨by rw[HI.out,HS.out,jb HQ.out];rfl,hB.trans (aB.mono hB.size)⟩
    ·have BN:(a==n)=false:=by simp[hq]
     have HQ:Hid (¬a=n):=hq;rw[BN]at KL;clear hq BN;go_wp2_with (go_at_call 202;refine KL.mono ?_;rintro e w1 ⟨rfl,aB⟩)
     go_roundw
     case rel=>exact⟨k+1,by omega,by go_num,hB.trans (aB.mono hB.size),by unfold Hid;rw[HI.out,HS.out,ja HQ.out]⟩
     case measure=>simp[intOf];omega
   ·have e:cE ls n= -1:=by rw[HI.out,jT (by omega)];rfl
    go_wp2
    go_ret
    exact⟨by rw[e];rfl,hB⟩
set_option maxRecDepth 20000 in
theorem zK (ls:List (B×Nat))(v u:Value)(n:B)(a:Nat)(w:World)(hp:w.heap[a]?=some (.cells #[v,u] 110 (0,0)))(hv:eT w v ls)(dS:ls.length<=4000):
  Calls Tryz.prog 168 #[.pointer (some ⟨a,0,none⟩),.string (bs n)] w fun e w'=>e=.returned (.int .i64 (cE ls n))/\Below w.heap.size w w':=by
 have NA:Below w.heap.size w (w.alloc (.cells #[.string (bs n)] 9)):=(Below.refl _ _).alloc (jC _) _;have KI:=vN ls v n w.heap.size (w.alloc (.cells #[.string (bs n)] 9)) (hv.below NA) dS (by simp) (by simp);have aP:=lt_of_heap hp;have hc:w.cell? ⟨a,0,none⟩=some v:=by rw[cell_of_heap hp];rfl
 have c8:a≠w.heap.size:=by omega
 have Re:∀(fn:Fn) (first cap:Array Value) (w:World),(Instr.makeFunc fn first cap).run Tryz.prog w=.ok (.func fn first cap) w:=fun _ _ _ _=>rfl
 go_enter Tryz.func168,Tryz.ntmps168
 go_wp2_with (go_at_call 201;refine KI.mono ?_;rintro e w1 ⟨rfl,aB⟩)
 go_ret
 exact⟨rfl,NA.trans (aB.mono NA.size)⟩
end PrjO
end Go.Proofs.YtmlgajhhnojdjaaGreatDoor

import Derived.Test.YtmlgajhhnojdjaaGreatDoorUAF
import Derived.Deep.DeepMust
set_option maxHeartbeats 8000000
namespace Go.Proofs.YtmlgajhhnojdjaaGreatDoor
namespace PrjN
open Go Go.RowKit Sq Aux PrjF PrjG PrjH PrjI PrjJ PrjK PrjL
def dI (raw:Bool)(L:List B)(w:World)(e:Ending)(w':World):Prop:=
 Below w.heap.size w w'/\match ay raw (L.map (split 32)) ⟨0,0,0⟩ 0 with
  |(_,_,some k)=>e=.returned (.tuple #[.slice none 0 0,.int .i64 (k:Nat),.bool false])
  |(S,o,none)=>∃v vs,e=.returned (.tuple #[v,.int .i64 (L.length:Nat),.bool (decide (o.sec=2))])/\cZ w.heap.size w' v S vs
theorem dI.bad {raw:Bool}{L:List B}{w w':World}{k:Nat}(hb:Below w.heap.size w w')(h:(ay raw (L.map (split 32)) ⟨0,0,0⟩ 0).2.2=some k):dI raw L w (.returned (.tuple #[.slice none 0 0,.int .i64 (k:Nat),.bool false])) w':=by
 refine⟨hb,?_⟩;generalize ay raw (L.map (split 32)) ⟨0,0,0⟩ 0=R at h;obtain⟨S,o,x⟩:=R;simp only at h;subst h;rfl
theorem dI.Ic {raw:Bool}{L:List B}{w w':World}{S:List (Nat×List B)}{o:eA}{v:Value}{vs:List Value}(hb:Below w.heap.size w w')(h:ay raw (L.map (split 32)) ⟨0,0,0⟩ 0=(S,o,none))(hs:cZ w.heap.size w' v S vs):dI raw L w (.returned (.tuple #[v,.int .i64 (L.length:Nat),.bool (decide (o.sec=2))])) w':=by
 refine⟨hb,?_⟩;rw[h];exact⟨v,vs,rfl,hs⟩
theorem NA {w:World}{u:Value}{L:List B}(h:fB w u L):u.oneCell'=true:=by
 obtain⟨g,o,cap,rfl,-⟩:=h;rfl
theorem Sw {n:Int}{u:Value}(h:u.oneCell'=true):∀u'∈[Value.int .i64 n,u],u'.oneCell'=true:=by
 intro u' hu;simp at hu;rcases hu with rfl|rfl
 ·rfl
 ·exact h
theorem JH {b:Nat}{w w':World}{v:Value}{L:List B}(h:fB w v L)(hb:bD b w w'){raw:Bool}{ln mb:Nat}{o:eA}(ho:dr w b raw ln mb o):fB w' v L:=
 oQ h fun g cs f hg=>hb.block g (lt_of_heap hg) (fun x=>by
  subst x;unfold dr at ho;rw[ho]at hg;simp only[Option.some.injEq,Obj.cells.injEq]at hg;exact absurd hg.2.1 (by decide))
theorem Jk {b:Nat}{w w':World}{x y:Value}(hb:bD b (w.alloc (.cells #[x,y] 240)) w')(dB:b<w.heap.size):w'.cell? ⟨w.heap.size,0,none⟩=some x/\w'.cell? ⟨w.heap.size,1,none⟩=some y:=by
 have h0:(w.alloc (.cells #[x,y] 240)).heap[w.heap.size]?=some (.cells #[x,y] 240 (0,0)):=jD;have h1:w'.heap[w.heap.size]?=some (.cells #[x,y] 240 (0,0)):=(hb.block _ (lt_of_heap h0) (by omega)).trans h0;exact⟨by rw[cell_of_heap h1];rfl,by rw[cell_of_heap h1];rfl⟩
theorem Me:(Tryz.prog.info? 240).map (fun i=>(i.zero,i.size,i.bytes))=some (some (.agg #[.int .i64 0,.slice none 0 0]),2,32):=by kernel_rfl
set_option maxRecDepth 20000 in
theorem Nk (raw:Bool)(ln g cap:Nat)(L:List B)(w:World)(hL:L.length<=4000)(_hcap:L.length<=cap)(hg:g<w.heap.size)(aX:∀j,j<L.length->w.cell? ⟨g,j,none⟩=some (.string (bs (word L j))))(hlen:∀j,(word L j).length<=1048576)(E:Env w):
  Calls Tryz.prog 115 #[.agg #[.bool raw,.int .i64 ln,.int .i64 (if raw then 2000 else 20:Nat)],.slice (some ⟨g,0,none⟩) L.length cap] w (dI raw L w):=by
 obtain⟨i0,hi0,Hb,tY,tZ⟩:=info_parts Me;have KA:=fun(op:Nat) (o:eA) (w':World)=>Hh raw ln (w.heap.size+1) op o w'
 generalize (if raw then 2000 else 20:Nat)=mb at KA⊢;have lo:Below w.heap.size w ((w.alloc (.cells #[.bool raw,.int .i64 ln,.int .i64 mb] 130)).alloc (.cells #[.bool raw,.int .i64 ln,.int .i64 mb,.int .i64 0,.int .i64 0,.int .i64 0] 238)):=((Below.refl _ _).alloc (jC _) _).alloc (by simp) _;have NH:dr ((w.alloc (.cells #[.bool raw,.int .i64 ln,.int .i64 mb] 130)).alloc (.cells #[.bool raw,.int .i64 ln,.int .i64 mb,.int .i64 0,.int .i64 0,.int .i64 0] 238)) (w.heap.size+1) raw ln mb ⟨0,0,0⟩:=by
  unfold dr;rw[show w.heap.size+1=(w.alloc (.cells #[.bool raw,.int .i64 ln,.int .i64 mb] 130)).heap.size by simp];exact jD
 go_enter Tryz.func115,Tryz.ntmps115
 go_wp2
 go_loopw [4,16] (fun v i wr=>∃(k:Nat) (done:List (Nat×List B)) (o:eA) (vs:List Value),k<=L.length/\i=.int .i64 k/\dr wr (w.heap.size+1) raw ln mb o/\cZ w.heap.size wr v done vs/\Below w.heap.size w wr/\Hid (ly raw (L.map (split 32)) k done o)) (fun _ i _=>L.length-(intOf i).toNat)
 case atStart=>exact⟨0,[],⟨0,0,0⟩,[],jQ _,rfl,NH,cZ.nil _ _,lo,ly.start raw _⟩
 case round=>
  obtain⟨k,done,o,vs,hk,rfl,hO,hS,hB,HA⟩:=hrel;clear lo NH;by_cases bg:k<L.length
  ·have Ip:wr.cell? ⟨g,k,none⟩=some (.string (bs (word L k))):=(hB.cell (p:=⟨g,k,none⟩) hg).trans (aX k bg);have KS:=Ai (word L k) wr (hlen k) (E.on hB);have OW:k<(L.map (split 32)).length:=by simpa using bg
   have Fb:Hid ((L.map (split 32))[k]=split 32 (word L k)):=by
    unfold Hid;simp[word,bg]
   have lj:w.heap.size+1<wr.heap.size:=lt_of_heap hO;cases hx:db (split 32 (word L k))with
   |none=>
    have Uk:=HA.out.bad OW (by rw[Fb.out];exact hx);unfold kD at KS;rw[hx]at KS;clear hx;go_wp2_with (go_at_call 163;refine KS.mono ?_;rintro e w1 ⟨aG,rfl⟩)
    go_ret3
    exact dI.bad ((hB.trans (aG.mono hB.size)).alloc (jS hB.size aG.size) _) Uk
   |some x=>
    obtain⟨-,UC⟩:=rU hx;have ak:=mH UC;have xV:=HA.out.mc;have Tl:=HA.out.len;unfold kD at KS;rw[hx]at KS
    replace KS:Calls Tryz.prog 163 #[.string (bs (word L k))] wr fun e w'=>Below wr.heap.size wr w'/\∃gw ow cw,e=.returned (.tuple #[.agg #[.int .i64 (x.1:Nat),.slice (some ⟨gw,ow,none⟩) x.2.length cw],.bool true])/\fB w' (.slice (some ⟨gw,ow,none⟩) x.2.length cw) x.2:=
     KS.mono fun e w' ⟨h1,v,h2,h3⟩=>by
      have QI:=h3;obtain⟨gw,ow,cw,rfl,-⟩:=QI;exact⟨h1,gw,ow,cw,h2,h3⟩
    cases ha:(aD raw o x.1).2 with
    |false=>
     have Uk:=HA.out.out OW (by rw[Fb.out];exact hx) ha;have KB:∀w',dr w' (w.heap.size+1) raw ln mb o->w.heap.size+1<w'.heap.size->Calls Tryz.prog 164 #[.pointer (some ⟨w.heap.size+1,0,none⟩),.int .i64 x.1] w' fun e w''=>e=.returned (.bool false)/\dr w'' (w.heap.size+1) raw ln mb (aD raw o x.1).1/\bD (w.heap.size+1) w' w'':=fun w' h1 h2=>by
      have:=KA x.1 o w' h1 ak (by omega) (by omega) h2;unfold eY at this
      rwa [ha]at this
     clear hx ha UC Tl xV KA;go_wp2_with (first
      |(go_at_call 163;refine KS.mono ?_;rintro e w1 ⟨aG,gw,ow,cw,rfl,hu⟩;have kd:w.heap.size+1<(w1.alloc (.cells #[.int .i64 (x.1:Nat),.slice (some ⟨gw,ow,none⟩) x.2.length cw] 240)).heap.size:=(by have:=aG.size;simp;omega);have Wq:=hO.below (aG.alloc aG.size (.cells #[.int .i64 (x.1:Nat),.slice (some ⟨gw,ow,none⟩) x.2.length cw] 240)) lj)
      |(go_at_call 164;refine(KB _ Wq kd).mono ?_;rintro e w2 ⟨rfl,gF,lV⟩))
     go_ret3
     exact dI.bad ((hB.trans ((aG.alloc aG.size _).mono hB.size)).trans (lV.below (by omega) (by omega))) Uk
    |true=>
     have HA2:Hid (ly raw (L.map (split 32)) (k+1) (done++[x]) (aD raw o x.1).1):=HA.out.on OW (by rw[Fb.out];exact hx) ha;have KB:∀w',dr w' (w.heap.size+1) raw ln mb o->w.heap.size+1<w'.heap.size->Calls Tryz.prog 164 #[.pointer (some ⟨w.heap.size+1,0,none⟩),.int .i64 x.1] w' fun e w''=>e=.returned (.bool true)/\dr w'' (w.heap.size+1) raw ln mb (aD raw o x.1).1/\bD (w.heap.size+1) w' w'':=fun w' h1 h2=>by
      have:=KA x.1 o w' h1 ak (by omega) (by omega) h2;unfold eY at this
      rwa [ha]at this
     clear hx ha UC xV KA;go_wp2_with (first
      |(go_at_call 163;refine KS.mono ?_;rintro e w1 ⟨aG,gw,ow,cw,rfl,hu⟩;have kd:w.heap.size+1<(w1.alloc (.cells #[.int .i64 (x.1:Nat),.slice (some ⟨gw,ow,none⟩) x.2.length cw] 240)).heap.size:=(by have:=aG.size;simp;omega);have Wq:=hO.below (aG.alloc aG.size (.cells #[.int .i64 (x.1:Nat),.slice (some ⟨gw,ow,none⟩) x.2.length cw] 240)) lj)
      |(go_at_call 164;refine(KB _ Wq kd).mono ?_;rintro e w2 ⟨rfl,gF,lV⟩;have hsb:=Jk lV (by have:=aG.size;omega);obtain⟨yj,iQ⟩:=hsb;have qK:=(hS.below (aG.alloc aG.size (.cells #[.int .i64 (x.1:Nat),.slice (some ⟨gw,ow,none⟩) x.2.length cw] 240))).lx lV Wq;have hu1:=NA hu;have hbs:w.heap.size<=w2.heap.size:=(by have:=lV.size;omega))
      |(at_builtin;go_must (refine iI rfl _ _ 193 rfl w.heap.size 240 i0 (.agg #[.int .i64 0,.slice none 0 0]) 2 32 Tryz.underlying193 hi0 Hb tY tZ rfl (by decide) _ _ _ rfl (aw qK.row ((Below.refl _ _).alloc (jC _) (.cells #[.int .i64 (x.1:Nat),.slice (some ⟨gw,ow,none⟩) x.2.length cw] 240))) w2.heap.size [.int .i64 (x.1:Nat),.slice (some ⟨gw,ow,none⟩) x.2.length cw] rfl jD rfl (Sw hu1) (by decide) (by omega) (by simp;omega) ?_);intro g3 c3 w3 hown3 lY hat3 hlt3))
     go_roundw
     case rel=>
      have OL:Below w2.heap.size w2 (w2.alloc (.cells #[.int .i64 (x.1:Nat),.slice (some ⟨gw,ow,none⟩) x.2.length cw] 240)):=(Below.refl _ _).alloc (jC _) _;have dT:Below w.heap.size w w2:=(hB.trans ((aG.alloc aG.size _).mono hB.size)).trans (lV.below (by omega) (by omega));have hu2:=JH (hu.below ((Below.refl _ _).alloc (jC _) (.cells #[.int .i64 (x.1:Nat),.slice (some ⟨gw,ow,none⟩) x.2.length cw] 240))) lV Wq;have YO:=gF.below OL (lt_of_heap gF);have Pa:=qK.more x hu2 OL hown3 lY;rw[Tl]at Pa;refine⟨k+1,done++[x],(aD raw o x.1).1,vs++[.slice (some ⟨gw,ow,none⟩) x.2.length cw],by omega,by go_num,?_,Pa,dX dT (jC _) dT.size qK.row lY,HA2⟩;unfold dr at YO⊢;rw[lY.block _ (lt_of_heap YO) (aU (aw qK.row OL) YO (by decide))];exact YO
     case measure=>simp[intOf];omega
  ·have hw:=HA.out.whole (by simpa using bg);have KD:=fun w' (h:dr w' (w.heap.size+1) raw ln mb o)=>Oi raw ln mb (w.heap.size+1) o w' h
   go_wp2_with (go_at_call 165;refine(KD _ hO).mono ?_;rintro e wd ⟨rfl,rfl⟩)
   go_ret3
   exact dI.Ic hB hw hS
end PrjN
namespace PrjO
open Go Go.RowKit Sq Aux PrjF PrjG PrjH PrjI PrjJ PrjK PrjL PrjM PrjN
theorem Jl {z:Nat}{w:World}{v:Value}{S:List (Nat×List B)}{vs:List Value}(h:cZ z w v S vs)(hn:0<S.length):∃g cap,v=.slice (some ⟨g,0,none⟩) S.length cap/\S.length<=cap/\g<w.heap.size:=by
 obtain⟨g,cap,hv,hc,hg,-⟩:=cW h.row hn;exact⟨g,cap,hv,hc,hg⟩
theorem xw {z:Nat}{w:World}{g cap:Nat}{S:List (Nat×List B)}{vs:List Value}(h:cZ z w (.slice (some ⟨g,0,none⟩) S.length cap) S vs)(j:Nat)(hj:j<S.length):
  w.cell? ⟨g,j*2,none⟩=some (.int .i64 ((S.getD j (0,[])).1:Nat))/\∃gw ow cw,w.cell? ⟨g,j*2+1,none⟩=some (.slice (some ⟨gw,ow,none⟩) (S.getD j (0,[])).2.length cw)/\fB w (.slice (some ⟨gw,ow,none⟩) (S.getD j (0,[])).2.length cw) (S.getD j (0,[])).2:=by
 obtain⟨g',cap',hv,-,-,h1,h2⟩:=h.at j hj;simp only[Value.slice.injEq,Option.some.injEq,Addr.mk.injEq,and_true,true_and]at hv;obtain⟨rfl,rfl⟩:=hv;have h3:=h.each j hj;have QI:=h3;obtain⟨gw,ow,cw,e,-⟩:=QI;rw[e]at h2 h3;exact⟨h1,gw,ow,cw,h2,h3⟩
theorem lC (S:List (Nat×List B))(k:Nat)(hk:k<S.length):countB (S.take (k+1))=countB (S.take k)+if(S.getD k (0,[])).1=1 then 1 else 0:=by
 unfold countB;rw[List.take_add_one,jB hk,Option.toList_some,List.filter_append,jV];congr 1;have:S.getD k (0,[])=S[k]:=by simp[List.getD_eq_getElem?_getD,hk]
 rw[this];by_cases h:S[k].1=1
 ·rw[jb h];simp[h]
 ·rw[ja h];simp[h]
theorem countB_le (S:List (Nat×List B)):countB S<=S.length:=List.length_filter_le ..
set_option maxRecDepth 20000 in
theorem xL {z g cap:Nat}{S:List (Nat×List B)}{vs:List Value}(w:World)(h:cZ z w (.slice (some ⟨g,0,none⟩) S.length cap) S vs)(hS:S.length<=4000)(_hcap:S.length<=cap):
  Calls Tryz.prog 167 #[.slice (some ⟨g,0,none⟩) S.length cap] w fun e w'=>e=.returned (.int .i64 (countB S:Nat))/\Below w.heap.size w w':=by
 go_enter Tryz.func167,Tryz.ntmps167
 go_wp2
 go_loopw [3,8] (fun n i wr=>∃(k c:Nat),k<=S.length/\c<=k/\i=.int .i64 k/\n=.int .i64 c/\Below w.heap.size w wr/\Hid (c=countB (S.take k))) (fun _ i _=>S.length-(intOf i).toNat)
 case atStart=>exact⟨0,0,jQ _,jC _,rfl,rfl,Below.refl _ _,rfl⟩
 case round=>
  obtain⟨k,c,hk,hc,rfl,rfl,hB,HC⟩:=hrel;by_cases bg:k<S.length
  ·obtain⟨h1,gw,ow,cw,h2,-⟩:=xw (h.below hB) k bg;have HS:Hid (_=_):=lC S k bg;by_cases h1b:(S.getD k (0,[])).1=1
   ·have aG:(((S.getD k (0,[])).1:Int)==1)=true:=by rw[h1b];rfl
    have HQ:Hid ((S.getD k (0,[])).1=1):=h1b;clear h1b;generalize (S.getD k (0,[])).1=op at*;go_wp2
    go_roundw
    case rel=>exact⟨k+1,c+1,by omega,by omega,by go_num,by go_num,hB.alloc hB.size _,by unfold Hid;rw[HS.out,jb HQ.out,HC.out]⟩
    case measure=>simp[intOf];omega
   ·have aG:(((S.getD k (0,[])).1:Int)==1)=false:=by rw[jZ];omega
    have HQ:Hid (¬(S.getD k (0,[])).1=1):=h1b;clear h1b;generalize (S.getD k (0,[])).1=op at*;go_wp2
    go_roundw
    case rel=>exact⟨k+1,c,by omega,by omega,by go_num,by go_num,hB.alloc hB.size _,by unfold Hid;rw[HS.out,ja HQ.out,HC.out];rfl⟩
    case measure=>simp[intOf];omega
  ·go_wp2
   go_ret
   have e:=HC.out;rw[List.take_of_length_le (by omega)]at e;exact⟨by rw[e];rfl,hB⟩
def gM (w:World)(v:Value)(ls:List (B×Nat)):Prop:=∃z,w.ownsRow z 146 2 v ls.length (pS ls)
theorem gM.below {w w':World}{v:Value}{ls:List (B×Nat)}(h:gM w v ls)(hb:Below w.heap.size w w'):gM w' v ls:=by
 obtain⟨z,h⟩:=h;exact⟨z,aw h hb⟩
theorem qv {w:World}{v:Value}{ls:List (B×Nat)}(h:gM w v ls):(ls=[]/\v=.slice none 0 0)\/∃g cap,v=.slice (some ⟨g,0,none⟩) ls.length cap/\ls.length<=cap/\g<w.heap.size/\∀j,j<ls.length->w.cell? ⟨g,j*2,none⟩=some (.string (bs (ls.getD j ([],0)).1))/\w.cell? ⟨g,j*2+1,none⟩=some (.int .i64 ((ls.getD j ([],0)).2:Nat)):=by
 obtain⟨z,h⟩:=h;rcases h.2 with⟨hv,hn⟩|⟨g,cap,cur,hv,hz,hg,hc,hm,hs,ht⟩
 ·exact .inl ⟨List.eq_nil_of_length_eq_zero hn,hv⟩
 ·refine .inr ⟨g,cap,hv,hc,lt_of_heap hg,fun j hj=> ?_⟩;have key:∀c,c<2->w.cell? ⟨g,j*2+c,none⟩=(ym (ls.getD j ([],0)))[c]?:=fun c AG=>by
   rw[cell_of_heap hg];have:(cur.toList.take (ls.length*2))[j*2+c]?=cur[j*2+c]?:=by
    rw[List.getElem?_take,jb (by omega)];simp
   rw[<-this,ht,pS,ie ym 2 (fun _=>rfl) ls j c AG];simp[hj]
  exact⟨key 0 (by decide),key 1 (by decide)⟩
theorem Hz (ls:List (B×Nat))(n:B)(k:Nat)(hk:k<ls.length):bz (ls.drop k) n k=if(ls.getD k ([],0)).1=n then(k:Int)else bz (ls.drop (k+1)) n (k+1):=by
 rw[jE hk,bz];have:ls.getD k ([],0)=ls[k]:=by simp[List.getD_eq_getElem?_getD,hk]
 rw[this]
theorem Fp (a n:B)(t:Int)(b:Nat)(w:World)(hn:w.cell? ⟨b,0,none⟩=some (.string (bs n)))(hb:b<w.heap.size):
  Calls Tryz.prog 202 #[.agg #[.string (bs a),.int .i64 t],.pointer (some ⟨b,0,none⟩)] w fun e w'=>e=.returned (.bool (a==n))/\Below w.heap.size w w':=by
 have ht:=bP a;have ht2:=bP n;have dB:b≠w.heap.size:=by omega
 go_enter Tryz.func202,Tryz.ntmps202
 go_wp2
 go_ret
 exact⟨rfl,(Below.refl _ _).alloc (jC _) _⟩
set_option maxRecDepth 20000 in
theorem Bd (ls:List (B×Nat))(v:Value)(n:B)(b:Nat)(w:World)(hv:gM w v ls)(bU:ls.length<=4000)(hn:w.cell? ⟨b,0,none⟩=some (.string (bs n)))(hb:b<w.heap.size):
  Calls Tryz.prog 201 #[v,.func (.func 202) #[] #[.pointer (some ⟨b,0,none⟩)]] w fun e w'=>e=.returned (.int .i64 (di ls n))/\Below w.heap.size w w':=by
 rcases qv hv with⟨rfl,rfl⟩|⟨g,cap,rfl,jw,hg,aX⟩
 ·go_enter Tryz.func201,Tryz.ntmps201
  go_wp2
  go_loopw [8] (fun i wr=>i=.int .i64 0/\wr=w) (fun _ _=>0)
  case atStart=>exact⟨rfl,rfl⟩
  case round=>
   obtain⟨rfl,rfl⟩:=hrel;go_wp2
   go_ret
   exact⟨rfl,Below.refl _ _⟩
 ·have HF:Hid (di ls n=bz (ls.drop 0) n 0):=rfl;go_enter Tryz.func201,Tryz.ntmps201
  go_wp2
  go_loopw [8] (fun i wr=>∃k:Nat,k<=ls.length/\i=.int .i64 k/\Below w.heap.size w wr/\Hid (di ls n=bz (ls.drop k) n k)) (fun i _=>ls.length-(intOf i).toNat)
  case atStart=>exact⟨0,jQ _,rfl,Below.refl _ _,HF⟩
  case round=>
   obtain⟨k,hk,rfl,hB,HI⟩:=hrel;by_cases bg:k<ls.length
   ·obtain⟨h1,h2⟩:=aX k bg;have c1:=(hB.cell (p:=⟨g,k*2,none⟩) hg).trans h1;have c2:=(hB.cell (p:=⟨g,k*2+1,none⟩) hg).trans h2;have cn:=(hB.cell (p:=⟨b,0,none⟩) hb).trans hn;have HS:Hid (_=_):=Hz ls n k bg;have KL:=Fp (ls.getD k ([],0)).1 n ((ls.getD k ([],0)).2:Nat) b wr cn (jK hb hB.size);clear h1 h2 aX;generalize (ls.getD k ([],0)).1=a at*;generalize (ls.getD k ([],0)).2=t at*;by_cases hq:a=n
    ·have G7:(a==n)=true:=by simp[hq]
     have HQ:Hid (a=n):=hq;rw[G7]at KL;clear hq G7;go_wp2_with (go_at_call 202;refine KL.mono ?_;rintro e w1 ⟨rfl,aG⟩)
     go_ret
     exact⟨by rw[HI.out,HS.out,jb HQ.out];rfl,hB.trans (aG.mono hB.size)⟩
    ·have G7:(a==n)=false:=by simp[hq]
     have HQ:Hid (¬a=n):=hq;rw[G7]at KL;clear hq G7;go_wp2_with (go_at_call 202;refine KL.mono ?_;rintro e w1 ⟨rfl,aG⟩)
     go_roundw
     case rel=>exact⟨k+1,by omega,by go_num,hB.trans (aG.mono hB.size),by unfold Hid;rw[HI.out,HS.out,ja HQ.out]⟩
     case measure=>simp[intOf];omega
   ·have e:di ls n= -1:=by rw[HI.out,jT (by omega)];rfl
    go_wp2
    go_ret
    exact⟨by rw[e];rfl,hB⟩
set_option maxRecDepth 20000 in
theorem EG (ls:List (B×Nat))(v u:Value)(n:B)(a:Nat)(w:World)(hp:w.heap[a]?=some (.cells #[v,u] 110 (0,0)))(hv:gM w v ls)(bU:ls.length<=4000):
  Calls Tryz.prog 168 #[.pointer (some ⟨a,0,none⟩),.string (bs n)] w fun e w'=>e=.returned (.int .i64 (di ls n))/\Below w.heap.size w w':=by
 have Vu:Below w.heap.size w (w.alloc (.cells #[.string (bs n)] 9)):=(Below.refl _ _).alloc (jC _) _;have KI:=Bd ls v n w.heap.size (w.alloc (.cells #[.string (bs n)] 9)) (hv.below Vu) bU (by simp) (by simp);have bg:=lt_of_heap hp;have hc:w.cell? ⟨a,0,none⟩=some v:=by rw[cell_of_heap hp];rfl
 have dB:a≠w.heap.size:=by omega
 have XL:∀(fn:Fn) (first cap:Array Value) (w:World),(Instr.makeFunc fn first cap).run Tryz.prog w=.ok (.func fn first cap) w:=fun _ _ _ _=>rfl
 go_enter Tryz.func168,Tryz.ntmps168
 go_wp2_with (go_at_call 201;refine KI.mono ?_;rintro e w1 ⟨rfl,aG⟩)
 go_ret
 exact⟨rfl,Vu.trans (aG.mono Vu.size)⟩
end PrjO
namespace PrjP
open Go Go.RowKit Sq Aux PrjF PrjG PrjH PrjI PrjJ PrjK PrjL PrjM PrjN PrjO
def fK (w:World)(b:Nat)(l:ab)(vp vn:Value):Prop:=
 w.heap[b]?=some (.cells #[.int .i64 (l.num:Nat),.int .i64 (l.op:Nat),vp,.int .i64 l.number,.int .i64 l.flag,vn] 115 (0,0))
section
variable {w w':World} {b:Nat} {l:ab} {vp vn:Value}
theorem fK.below {z:Nat}(h:fK w b l vp vn)(hb:Below z w w')(hz:b<z):fK w' b l vp vn:=by
 unfold fK;rw[hb.block b hz];exact h
theorem fK.facts (h:fK w b l vp vn):w.cell? ⟨b,0,none⟩=some (.int .i64 (l.num:Nat))/\w.cell? ⟨b,1,none⟩=some (.int .i64 (l.op:Nat))/\w.cell? ⟨b,2,none⟩=some vp/\w.cell? ⟨b,3,none⟩=some (.int .i64 l.number)/\w.cell? ⟨b,4,none⟩=some (.int .i64 l.flag)/\w.cell? ⟨b,5,none⟩=some vn/\∀o,w.frozen? ⟨b,o,none⟩=false:=by
 unfold fK at h;refine⟨?_,?_,?_,?_,?_,?_,frozen_of_heap h⟩<;>(rw[cell_of_heap h];rfl)
theorem fK.number (h:fK w b l vp vn)(n:Int):fK (w.setCell ⟨b,3,none⟩ (.int .i64 n)) b {l with number:=n} vp vn:=by
 unfold fK at h⊢;rw[Go.Proofs.YtmlgajhhnojdjaaGreatDoor.Aux.heap_setCell_same h 3];rfl
theorem fK.flag (h:fK w b l vp vn)(n:Int):fK (w.setCell ⟨b,4,none⟩ (.int .i64 n)) b {l with flag:=n} vp vn:=by
 unfold fK at h⊢;rw[Go.Proofs.YtmlgajhhnojdjaaGreatDoor.Aux.heap_setCell_same h 4];rfl
theorem fK.places (h:fK w b l vp vn)(v:Value)(ps:List (Nat×Nat)):fK (w.setCell ⟨b,2,none⟩ v) b {l with places:=ps} v vn:=by
 unfold fK at h⊢;rw[Go.Proofs.YtmlgajhhnojdjaaGreatDoor.Aux.heap_setCell_same h 2];rfl
theorem fK.next (h:fK w b l vp vn)(v:Value)(ns:List Nat):fK (w.setCell ⟨b,5,none⟩ v) b {l with next:=ns} vp v:=by
 unfold fK at h⊢;rw[Go.Proofs.YtmlgajhhnojdjaaGreatDoor.Aux.heap_setCell_same h 5];rfl
theorem aC.lx {z:Nat}(h:aC z w l vp vn)(hb:bD b w w'){cs:Array Value}{f:Nat×Nat}(hl:w.heap[b]?=some (.cells cs 115 f)):aC z w' l vp vn:=
 h.cj fun he hv=>eO hv fun g hg=>hb.block g (hv.lt g hg).2 fun x=>by
  subst x;rcases he with rfl|rfl
  ·exact aP hv hl (by decide) hg
  ·exact aP hv hl (by decide) hg
end
theorem bG {w:World}{z:Nat}{e:TypeId}{s:Nat}{v:Value}{n:Nat}{xs:List Value}(h:w.ownsRow z e s v n xs):∃ad c,v=.slice ad n c:=by
 rcases h.2 with⟨rfl,rfl⟩|⟨g,cap,cur,rfl,-⟩
 ·exact⟨none,0,rfl⟩
 ·exact⟨_,_,rfl⟩
def fN (z:Nat)(ls:List (B×Nat))(nb:Nat)(x:Nat×List B)(w:World)(e:Ending)(w':World):Prop:=
 Below w.heap.size w w'/\match dw ls nb x with
  |none=>e=.returned (.tuple #[.agg #[.int .i64 0,.int .i64 0,.slice none 0 0,.int .i64 0,.int .i64 0,.slice none 0 0],.bool false])
  |some l=>∃vp vn,e=.returned (.tuple #[.agg #[.int .i64 (l.num:Nat),.int .i64 (l.op:Nat),vp,.int .i64 l.number,.int .i64 l.flag,vn],.bool true])/\aC z w' l vp vn
theorem rE:(Tryz.prog.info? 119).map (fun i=>(i.zero,i.size,i.bytes))=some (some (.agg #[.int .i64 0,.int .i64 0]),2,16):=by kernel_rfl
theorem Pp:(Tryz.prog.info? 3).map (fun i=>(i.zero,i.size,i.bytes))=some (some (.int .i64 0),1,8):=by kernel_rfl
theorem FF (ls:List (B×Nat))(nb:Nat)(f:B)(ws:List B)(k:Nat)(hk:k<f.length)(l:ab):bQ ls nb (f.drop k) (ws.drop k) l=
  if((f[k].toNat:Int)==35)=true\/((f[k].toNat:Int)==118)=true then bQ ls nb (f.drop (k+1)) (ws.drop (k+1)) {l with number:=(cX (word ws k)).getD 0}
  else if((f[k].toNat:Int)==102)=true then bQ ls nb (f.drop (k+1)) (ws.drop (k+1)) {l with flag:=(aH (word ws k)).getD 0}
  else if((f[k].toNat:Int)==98)=true then
   (if((aH (word ws k)).getD 0)≥nb then none else bQ ls nb (f.drop (k+1)) (ws.drop (k+1)) {l with next:=l.next++[((aH (word ws k)).getD 0).toNat]})
  else
   (if di ls ((bL (word ws k)).getD ([],0)).1<0 then none
    else bQ ls nb (f.drop (k+1)) (ws.drop (k+1)) {l with places:=l.places++[((di ls ((bL (word ws k)).getD ([],0)).1).toNat,((bL (word ws k)).getD ([],0)).2)]}):=by
 have e:∀n:Nat,n<256->(((f[k].toNat:Int)==(n:Int))=true↔f[k]=UInt8.ofNat n):=fun n hn=>by
  rw[xC f[k] n hn,beq_iff_eq];omega
 have e1:=e 35 (by omega);have e2:=e 118 (by omega);have e3:=e 102 (by omega);have e4:=e 98 (by omega);simp only[Int.cast_ofNat_Int]at e1 e2 e3 e4;have hw:word (ws.drop k) 0=word ws k:=by simp[word]
 simp only[e1,e2,e3,e4];rw[jE hk,bQ,hw,List.drop_drop];rfl
theorem Ni {w:World}{b:Nat}{l:ab}{vp vn:Value}(r:fK w b l vp vn)(a0 a1 a2 a3 a4 a5:Value):
  ((((((w.setCell ⟨b,0,none⟩ a0).setCell ⟨b,1,none⟩ a1).setCell ⟨b,2,none⟩ a2).setCell ⟨b,3,none⟩ a3).setCell ⟨b,4,none⟩ a4).setCell ⟨b,5,none⟩ a5).rangeAt b 0 [a0,a1,a2,a3,a4,a5]:=by
 unfold fK at r;have h1:=Go.Proofs.YtmlgajhhnojdjaaGreatDoor.Aux.heap_setCell_same r 0 a0;have h2:=Go.Proofs.YtmlgajhhnojdjaaGreatDoor.Aux.heap_setCell_same h1 1 a1;have h3:=Go.Proofs.YtmlgajhhnojdjaaGreatDoor.Aux.heap_setCell_same h2 2 a2;have h4:=Go.Proofs.YtmlgajhhnojdjaaGreatDoor.Aux.heap_setCell_same h3 3 a3;have h5:=Go.Proofs.YtmlgajhhnojdjaaGreatDoor.Aux.heap_setCell_same h4 4 a4;have h6:=Go.Proofs.YtmlgajhhnojdjaaGreatDoor.Aux.heap_setCell_same h5 5 a5;intro j v hv;rw[cell_of_heap h6]
 match j,hv with
 |0,hv=>simpa using hv
 |1,hv=>simpa using hv
 |2,hv=>simpa using hv
 |3,hv=>simpa using hv
 |4,hv=>simpa using hv
 |5,hv=>simpa using hv
theorem Md:(Tryz.prog.info? 115).map (·.size)=some 6:=by kernel_rfl
theorem zE {z nb:Nat}{ls:List (B×Nat)}{x:Nat×List B}{w w2:World}{tmps:Array Value}{a0 a1 a2 a3 a4 a5:Value}{bl:Bool}{b:Nat}{l:ab}{vp vn:Value}(h6:tmps.getD 6 undef=.pointer (some ⟨b,0,none⟩))(h7:tmps.getD 7 undef=.bool bl)(r:fK w2 b l vp vn)
  (P:∀w3,bD b w2 w3->fN z ls nb x w (.returned (.tuple #[.agg #[a0,a1,a2,a3,a4,a5],.bool bl])) w3):
  bodyPost Tryz.prog Tryz.f170 (fN z ls nb x w) Exit.ret {tmps:=tmps,defers:=[]} ((((((w2.setCell ⟨b,0,none⟩ a0).setCell ⟨b,1,none⟩ a1).setCell ⟨b,2,none⟩ a2).setCell ⟨b,3,none⟩ a3).setCell ⟨b,4,none⟩ a4).setCell ⟨b,5,none⟩ a5):=by
 refine bodyPost_ret (lN Tryz.results170 tmps _ _ b [a0,a1,a2,a3,a4,a5] _ h6 (Ni r a0 a1 a2 a3 a4 a5) Tryz.underlying115 rfl Md) rfl ?_;rw[h7];exact P _ ((((((((bD.refl b w2).setCell 0 a0).setCell 1 a1).setCell 2 a2).setCell 3 a3).setCell 4 a4).setCell 5 a5))
theorem MU {m n:Int}:∀u'∈[Value.int .i64 m,Value.int .i64 n],u'.oneCell'=true:=by
 intro u' hu;simp at hu;rcases hu with rfl|rfl<;>rfl
structure gX (ls:List (B×Nat))(nb op gw ow cw:Nat)(ws:List B)(w wr:World)(k:Nat)(l:ab)(vp vn:Value):Prop where
 ln:fK wr (w.heap.size+1) l vp vn
 at_:aC w.heap.size wr l vp vn
 eQ:wr.heap[w.heap.size]?=some (.cells #[.int .i64 (op:Nat),.slice (some ⟨gw,ow,none⟩) (ah op).length cw] 240 (0,0))
 aZ:Below w.heap.size w wr
 mc:l.places.length<=k/\l.next.length<=k
 same:dw ls nb (op,ws)=bQ ls nb ((ah op).drop k) (ws.drop k) l
section
variable {ls:List (B×Nat)} {nb op gw ow cw:Nat} {ws:List B} {w wr w1 w2 w3:World} {k:Nat} {l:ab} {vp vn:Value}
theorem gX.on (h:gX ls nb op gw ow cw ws w wr k l vp vn)(hb:Below wr.heap.size wr w1):gX ls nb op gw ow cw ws w w1 k l vp vn:=
 ⟨h.ln.below hb (lt_of_heap h.ln),h.at_.below hb,by rw[hb.block _ (lt_of_heap h.eQ)];exact h.eQ,h.aZ.trans (hb.mono h.aZ.size),h.mc,h.same⟩
theorem gX.fX (h:gX ls nb op gw ow cw ws w wr k l vp vn)(hb:bD (w.heap.size+1) wr w1):aC w.heap.size w1 l vp vn/\w1.heap[w.heap.size]?=some (.cells #[.int .i64 (op:Nat),.slice (some ⟨gw,ow,none⟩) (ah op).length cw] 240 (0,0))/\Below w.heap.size w w1:=
 ⟨aC.lx h.at_ hb h.ln,by rw[hb.block _ (lt_of_heap h.eQ) (by omega)];exact h.eQ,h.aZ.trans (hb.below (by omega) h.aZ.size)⟩
theorem gX.next (h:gX ls nb op gw ow cw ws w w1 k l vp vn)(m:Nat){v':Value}(h2:Below w1.heap.size w1 w2)(hown:w3.ownsRow w.heap.size 3 1 v' (l.next.length+1) (eg l.next++[.int .i64 (m:Nat)]))(hg:w2.grownBy w3 vn.ownBlock)
  (hs:dw ls nb (op,ws)=bQ ls nb ((ah op).drop (k+1)) (ws.drop (k+1)) {l with next:=l.next++[m]}):gX ls nb op gw ow cw ws w (w3.setCell ⟨w.heap.size+1,5,none⟩ v') (k+1) {l with next:=l.next++[m]} vp v':=by
 have H:=h.on h2;have cj:∀(g:Nat) (cs:Array Value) (e:TypeId) (f:Nat×Nat),w2.heap[g]?=some (.cells cs e f)->3≠e->w3.heap[g]?=w2.heap[g]?:=fun g cs e f vX he=>hg.block g (lt_of_heap vX) (aU H.at_.next vX he)
 have OV:fK w3 (w.heap.size+1) l vp vn:=by unfold fK;rw[cj _ _ _ _ H.ln (by decide)];exact H.ln
 have Ph:w3.heap[w.heap.size]?=_:=(cj _ _ _ _ H.eQ (by decide)).trans H.eQ;have cT:Below w.heap.size w w3:=by
  refine H.aZ.grown hg H.aZ.size fun k hk=> ?_
  exact(H.at_.next.lt k hk).1
 refine⟨OV.next v' (l.next++[m]),⟨?_,?_⟩,?_,cT.trans (((bD.refl _ w3).setCell 5 v').below (by omega) cT.size),⟨by have:=h.mc;simp;omega,by have:=h.mc;simp;omega⟩,hs⟩
 ·exact aS (H.at_.places.kept hg (dF H.at_.places H.at_.next (by decide))) _ (aP (H.at_.places.kept hg (dF H.at_.places H.at_.next (by decide))) OV (by decide))
 ·have:=aS hown (a:=⟨w.heap.size+1,5,none⟩) v' (aP hown OV (by decide));simpa [eg]using this
 ·rw[Below.heap_setCell _ _ _ _ (by show w.heap.size≠w.heap.size+1;omega)];exact Ph
theorem gX.place (h:gX ls nb op gw ow cw ws w w1 k l vp vn)(x:Nat×Nat){v':Value}(h2:Below w1.heap.size w1 w2)(hown:w3.ownsRow w.heap.size 119 2 v' (l.places.length+1) (bf l.places++[.int .i64 (x.1:Nat),.int .i64 (x.2:Nat)]))(hg:w2.grownBy w3 vp.ownBlock)
  (hs:dw ls nb (op,ws)=bQ ls nb ((ah op).drop (k+1)) (ws.drop (k+1)) {l with places:=l.places++[x]}):gX ls nb op gw ow cw ws w (w3.setCell ⟨w.heap.size+1,2,none⟩ v') (k+1) {l with places:=l.places++[x]} v' vn:=by
 have H:=h.on h2;have cj:∀(g:Nat) (cs:Array Value) (e:TypeId) (f:Nat×Nat),w2.heap[g]?=some (.cells cs e f)->119≠e->w3.heap[g]?=w2.heap[g]?:=fun g cs e f vX he=>hg.block g (lt_of_heap vX) (aU H.at_.places vX he)
 have OV:fK w3 (w.heap.size+1) l vp vn:=by unfold fK;rw[cj _ _ _ _ H.ln (by decide)];exact H.ln
 have Ph:w3.heap[w.heap.size]?=_:=(cj _ _ _ _ H.eQ (by decide)).trans H.eQ;have cT:Below w.heap.size w w3:=by
  refine H.aZ.grown hg H.aZ.size fun k hk=> ?_
  exact(H.at_.places.lt k hk).1
 refine⟨OV.places v' (l.places++[x]),⟨?_,?_⟩,?_,cT.trans (((bD.refl _ w3).setCell 2 v').below (by omega) cT.size),⟨by have:=h.mc;simp;omega,by have:=h.mc;simp;omega⟩,hs⟩
 ·have:=aS hown (a:=⟨w.heap.size+1,2,none⟩) v' (aP hown OV (by decide));simpa [bf,vu]using this
 ·exact aS (H.at_.next.kept hg (dF H.at_.next H.at_.places (by decide))) _ (aP (H.at_.next.kept hg (dF H.at_.next H.at_.places (by decide))) OV (by decide))
 ·rw[Below.heap_setCell _ _ _ _ (by show w.heap.size≠w.heap.size+1;omega)];exact Ph
end
theorem FH {ls:List (B×Nat)}{nb op gw ow cw:Nat}{ws:List B}{w w1 w2 w3:World}{k:Nat}{l:ab}{vp vn:Value}(h:gX ls nb op gw ow cw ws w w1 k l vp vn)(h2:Below w1.heap.size w1 w2){vx:Value}{e:TypeId}{sz n:Nat}{xs:List Value}(hx:w2.ownsRow w.heap.size e sz vx n xs)(hg:w2.grownBy w3 vx.ownBlock)(he:e≠115):fK w3 (w.heap.size+1) l vp vn:=by
 have H:=h.on h2;unfold fK;rw[hg.block _ (lt_of_heap H.ln) (aU hx H.ln he)];exact H.ln
theorem fN.none {z nb:Nat}{ls:List (B×Nat)}{x:Nat×List B}{w w':World}(hb:Below w.heap.size w w')(h:dw ls nb x=none):fN z ls nb x w (.returned (.tuple #[.agg #[.int .i64 0,.int .i64 0,.slice none 0 0,.int .i64 0,.int .i64 0,.slice none 0 0],.bool false])) w':=by
 refine⟨hb,?_⟩;rw[h]
theorem fN.some {z nb:Nat}{ls:List (B×Nat)}{x:Nat×List B}{w w':World}{l:ab}{vp vn:Value}(hb:Below w.heap.size w w')(h:dw ls nb x=some l)(hl:aC z w' l vp vn):fN z ls nb x w (.returned (.tuple #[.agg #[.int .i64 (l.num:Nat),.int .i64 (l.op:Nat),vp,.int .i64 l.number,.int .i64 l.flag,vn],.bool true])) w':=by
 refine⟨hb,?_⟩;rw[h];exact⟨vp,vn,rfl,hl⟩
set_option maxRecDepth 20000 in
theorem IV (ls:List (B×Nat))(nb op a gw ow cw:Nat)(ws:List B)(v u:Value)(w:World)(hp:w.heap[a]?=some (.cells #[v,u] 110 (0,0)))(hv:gM w v ls)(bU:ls.length<=4000)(_hnb:nb<=4000)(ak:op<23)(QV:ws.length=(ah op).length)(_hcw:(ah op).length<=cw)
  (Uu:gw<w.heap.size) (hW:∀j,j<(ah op).length->w.cell? ⟨gw,ow+j,none⟩=some (.string (bs (word ws j)))) (hlen:∀j,(word ws j).length<=1048576) (E:Env w):
  Calls Tryz.prog 170 #[.pointer (some ⟨a,0,none⟩),.agg #[.int .i64 (op:Nat),.slice (some ⟨gw,ow,none⟩) (ah op).length cw],.int .i64 (nb:Nat)] w (fN w.heap.size ls nb (op,ws) w):=by
 obtain⟨ip,hip,hp0,Di,Pf⟩:=info_parts rE;obtain⟨ii,hii,hi0,LV,hi2⟩:=info_parts Pp;have QU:=vF op ak;have HW:Hid (ws.length=(ah op).length):=QV;clear QV;have fy:gX ls nb op gw ow cw ws w ((w.alloc (.cells #[.int .i64 (op:Nat),.slice (some ⟨gw,ow,none⟩) (ah op).length cw] 240)).alloc (.cells #[.int .i64 0,.int .i64 (op:Nat),.slice none 0 0,.int .i64 0,.int .i64 0,.slice none 0 0] 115)) 0 ⟨0,op,[],0,0,[]⟩ (.slice none 0 0) (.slice none 0 0):=by
  refine⟨?_,⟨World.ownsRow_nil _ _ _ _,World.ownsRow_nil _ _ _ _⟩,?_,((Below.refl _ _).alloc (jC _) _).alloc (by simp) _,⟨jC _,jC _⟩,rfl⟩
  ·unfold fK;rw[show w.heap.size+1=(w.alloc (.cells #[.int .i64 (op:Nat),.slice (some ⟨gw,ow,none⟩) (ah op).length cw] 240)).heap.size by simp];exact jD
  ·rw[((Below.refl (w.heap.size+1) _).alloc (by simp) _).block w.heap.size (by omega)];exact jD
 go_enter Tryz.func170,Tryz.ntmps170
 go_wp2
 go_loopw [22] (fun i wr=>∃(k:Nat) (l:ab) (vp vn:Value),k<=(ah op).length/\i=.int .i64 k/\gX ls nb op gw ow cw ws w wr k l vp vn) (fun i _=>(ah op).length-(intOf i).toNat)
 case atStart=>exact⟨0,_,_,_,jQ _,rfl,fy⟩
 case round=>
  obtain⟨k,l,vp,vn,hk,rfl,H⟩:=hrel;clear fy;obtain⟨c0,c1,c2,c3,c4,c5,hf⟩:=H.ln.facts;by_cases bg:k<(ah op).length
  ·have Ip:wr.cell? ⟨gw,ow+k,none⟩=some (.string (bs (word ws k))):=(H.aZ.cell (p:=⟨gw,ow+k,none⟩) Uu).trans (hW k bg);have yj:wr.cell? ⟨w.heap.size,0,none⟩=some (.int .i64 (op:Nat)):=by rw[cell_of_heap H.eQ];rfl
   have zg:=kY (E.on H.aZ) op ak;have E1:=E.on H.aZ;have hlw:=hlen k;have HS:Hid (_=_):=H.same.trans (FF ls nb (ah op) ws k bg l);by_cases h1:(((ah op)[k].toNat:Int)==35)=true\/(((ah op)[k].toNat:Int)==118)=true
   ·have HN:Hid (_=_):=HS.out.trans (jb h1);have B6:=Jd h1;clear h1 HS;have KN:=sT (word ws k) wr (by omega) E1;rcases B6 with h1|⟨h1,h2⟩
    all_goals
     go_wp2_with (go_at_call 203;refine KN.mono ?_;rintro e w1 ⟨rfl,aG⟩;have H1:=H.on aG;obtain⟨d0,d1,d2,d3,d4,d5,hd⟩:=H1.ln.facts;have g3:=hd 3)
     go_roundw
     case rel=>
      obtain⟨t1,t2,t3⟩:=H1.fX ((bD.refl _ _).setCell 3 (.int .i64 ((cX (word ws k)).getD 0)));exact⟨k+1,{l with number:=(cX (word ws k)).getD 0},vp,vn,by omega,by go_num,H1.ln.number _,⟨t1.places,t1.next⟩,t2,t3,⟨Nat.le_succ_of_le H.mc.1,Nat.le_succ_of_le H.mc.2⟩,HN.out⟩
     case measure=>simp[intOf];omega
   ·have HN:Hid (_=_):=HS.out.trans (ja h1);simp only[not_or,Bool.not_eq_true]at h1;obtain⟨b1,b2⟩:=h1;clear HS;by_cases h2:(((ah op)[k].toNat:Int)==102)=true
    ·have Vd:Hid (_=_):=HN.out.trans (jb h2);clear HN;have KN:=yT (word ws k) wr (by omega) E1;go_wp2_with (go_at_call 204;refine KN.mono ?_;rintro e w1 ⟨rfl,aG⟩;have H1:=H.on aG;obtain⟨d0,d1,d2,d3,d4,d5,hd⟩:=H1.ln.facts;have g4:=hd 4)
     go_roundw
     case rel=>
      obtain⟨t1,t2,t3⟩:=H1.fX ((bD.refl _ _).setCell 4 (.int .i64 ((aH (word ws k)).getD 0)));exact⟨k+1,{l with flag:=(aH (word ws k)).getD 0},vp,vn,by omega,by go_num,H1.ln.flag _,⟨t1.places,t1.next⟩,t2,t3,⟨Nat.le_succ_of_le H.mc.1,Nat.le_succ_of_le H.mc.2⟩,Vd.out⟩
     case measure=>simp[intOf];omega
    ·have Vd:Hid (_=_):=HN.out.trans (ja h2);rw[Bool.not_eq_true]at h2;clear HN;by_cases h3:(((ah op)[k].toNat:Int)==98)=true
     ·have Q0:Hid (_=_):=Vd.out.trans (jb h3);clear Vd;obtain⟨n1,n2⟩:=fa (word ws k);have KN:=vN (word ws k) wr (by omega) E1;obtain⟨m,hm⟩:∃m:Nat,(aH (word ws k)).getD 0=(m:Int):=⟨((aH (word ws k)).getD 0).toNat,by omega⟩;by_cases Xw:(m:Int)≥nb
      ·have hx:dw ls nb (op,ws)=none:=Q0.out.trans (jb (by rw[hm];exact Xw));rw[hm]at KN;clear Q0 hm n1 n2;go_wp2_with (go_at_call 205;refine KN.mono ?_;rintro e w1 ⟨rfl,aG⟩;have H1:=H.on aG;obtain⟨d0,d1,d2,d3,d4,d5,hd⟩:=H1.ln.facts;have g0:=hd 0;have g1:=hd 1;have g2:=hd 2;have g3:=hd 3;have g4:=hd 4;have g5:=hd 5)
       refine zE rfl rfl H1.ln fun w3 hT=> ?_
       obtain⟨t1,t2,t3⟩:=H1.fX hT;exact fN.none t3 hx
      ·have hx:Hid (dw ls nb (op,ws)=bQ ls nb ((ah op).drop (k+1)) (ws.drop (k+1)) {l with next:=l.next++[m]}):=by
        unfold Hid;rw[Q0.out,ja (by rw[hm];exact Xw),hm,Int.toNat_natCast]
       rw[hm]at KN;rw[hm]at n2;have xV:=H.mc;clear Q0 hm n1;go_wp2_with (first
        |(go_at_call 205;refine KN.mono ?_;rintro e w1 ⟨rfl,aG⟩;have H1:=H.on aG;obtain⟨d0,d1,d2,d3,d4,d5,hd⟩:=H1.ln.facts;have g5:=hd 5;have aF:Below w1.heap.size w1 (w1.alloc (.cells #[.int .i64 (m:Nat)] 3)):=(Below.refl _ _).alloc (jC _) _)
        |(at_builtin;go_must (refine gN rfl _ _ 113 rfl w.heap.size 3 ii (.int .i64 0) 8 Tryz.underlying113 hii hi0 LV hi2 rfl vn _ _ rfl H1.at_.next _ rfl rfl (by decide) (by omega) H1.aZ.size ?_);intro g2 c2' w2 hown2 hgrow2 hat2 Dg;have QR:=FH H1 aF (aw H1.at_.next aF) hgrow2 (by decide);obtain⟨e0,e1,e2,e3,e4,e5,he⟩:=QR.facts;have g5':=he 5))
       go_roundw
       case rel=>exact⟨k+1,{l with next:=l.next++[m]},vp,_,by omega,by go_num,H1.next m aF hown2 hgrow2 hx.out⟩
       case measure=>simp[intOf];omega
     ·have Q0:Hid (_=_):=Vd.out.trans (ja h3);rw[Bool.not_eq_true]at h3;clear Vd;have KN:=qa (word ws k) wr hlw E1;generalize ((bL (word ws k)).getD ([],0)).1=nm at*;generalize ((bL (word ws k)).getD ([],0)).2=pt at*;have hpa:∀w',Below wr.heap.size wr w'->w'.heap[a]?=some (.cells #[v,u] 110 (0,0)):=fun w' hb=>by
       have RQ:=lt_of_heap hp;rw[hb.block a (jK RQ H.aZ.size),H.aZ.block a RQ];exact hp
      have KF:=fun w' (hb:Below wr.heap.size wr w')=>EG ls v u nm a w' (hpa w' hb) ((hv.below H.aZ).below hb) bU
      have IA:=rp ls nm 0;change-1<=di ls nm/\di ls nm<_ at IA;by_cases hneg:di ls nm<0
      ·have hx:dw ls nb (op,ws)=none:=Q0.out.trans (jb hneg);generalize di ls nm=q at*;clear Q0 IA;go_wp2_with (first
        |(go_at_call 206;refine KN.mono ?_;rintro e w1 ⟨rfl,aG⟩)
        |(go_at_call 168;refine(KF _ aG).mono ?_;rintro e w2 ⟨rfl,bH⟩;have H1:=(H.on aG).on bH;obtain⟨d0,d1,d2,d3,d4,d5,hd⟩:=H1.ln.facts;have g0:=hd 0;have g1:=hd 1;have g2:=hd 2;have g3:=hd 3;have g4:=hd 4;have g5:=hd 5))
       refine zE rfl rfl H1.ln fun w3 hT=> ?_
       obtain⟨t1,t2,t3⟩:=H1.fX hT;exact fN.none t3 hx
      ·obtain⟨m,hm⟩:∃m:Nat,di ls nm=(m:Int):=⟨(di ls nm).toNat,by omega⟩;have hx:Hid (dw ls nb (op,ws)=bQ ls nb ((ah op).drop (k+1)) (ws.drop (k+1)) {l with places:=l.places++[(m,pt)]}):=by
        unfold Hid;rw[Q0.out,ja hneg,hm,Int.toNat_natCast]
       rw[hm]at KF IA;have xV:=H.mc;clear Q0 hm hneg;go_wp2_with (first
        |(go_at_call 206;refine KN.mono ?_;rintro e w1 ⟨rfl,aG⟩)
        |(go_at_call 168;refine(KF _ aG).mono ?_;rintro e w2 ⟨rfl,bH⟩;have H1:=(H.on aG).on bH;obtain⟨d0,d1,d2,d3,d4,d5,hd⟩:=H1.ln.facts;have g2:=hd 2;have aF:Below w2.heap.size w2 (w2.alloc (.cells #[.int .i64 (m:Nat),.int .i64 (pt:Nat)] 119)):=(Below.refl _ _).alloc (jC _) _;have kd:w.heap.size<=(w2.alloc (.cells #[.int .i64 (m:Nat),.int .i64 (pt:Nat)] 119)).heap.size:=jS H1.aZ.size aF.size)
        |(at_builtin;go_must (refine iI rfl _ _ 112 rfl w.heap.size 119 ip (.agg #[.int .i64 0,.int .i64 0]) 2 16 Tryz.underlying112 hip hp0 Di Pf rfl (by decide) vp _ _ rfl (aw H1.at_.places aF) w2.heap.size [.int .i64 (m:Nat),.int .i64 (pt:Nat)] rfl jD rfl MU (by decide) (by omega) kd ?_);intro g3 c3' w3 hown3 lY hat3 hlt3;have QR:=FH H1 aF (aw H1.at_.places aF) lY (by decide);obtain⟨e0,e1,e2,e3,e4,e5,he⟩:=QR.facts;have g2':=he 2))
       go_roundw
       case rel=>exact⟨k+1,{l with places:=l.places++[(m,pt)]},_,vn,by omega,by go_num,H1.place (m,pt) aF hown3 lY hx.out⟩
       case measure=>simp[intOf];omega
  ·have hx:dw ls nb (op,ws)=some l:=by rw[H.same,jT (by omega)];rfl
   obtain⟨ap,cp,rfl⟩:=bG H.at_.places;obtain⟨an,cn,rfl⟩:=bG H.at_.next;have f0:=hf 0;have f1:=hf 1;have f2:=hf 2;have f3:=hf 3;have f4:=hf 4;have f5:=hf 5;clear hf;go_wp2
   refine zE rfl rfl H.ln fun w3 hT=> ?_
   obtain⟨t1,t2,t3⟩:=H.fX hT;exact fN.some t3 hx t1
end PrjP
end Go.Proofs.YtmlgajhhnojdjaaGreatDoor

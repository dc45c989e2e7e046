import Derived.Test.YtmlgajhhnojdjaaGreatDoorVAV
import Derived.Test.YtmlgajhhnojdjaaGreatDoorVAU
set_option maxHeartbeats 8000000
namespace Go.Proofs.YtmlgajhhnojdjaaGreatDoor
namespace PrjU
open Go Go.RowKit Sq Aux PrjF PrjG PrjH PrjI PrjJ PrjK PrjL PrjM PrjN PrjO PrjP PrjQ PrjR PrjS PrjT
theorem qL {z:Nat}{w:World}{v:Value}{ls:List ab}{vs:List (Value×Value)}(h:cH z w v ls vs):∃ad c,v=.slice ad ls.length c:=a8 h.row
theorem iI {z:Nat}{w:World}{ad:Option Addr}{n c:Nat}{ls:List ab}{vs:List (Value×Value)}(h:cH z w (.slice ad n c) ls vs)(j:Nat)(hj:j<ls.length):
  ∃g ap cp an cn,ad=some ⟨g,0,none⟩/\n=ls.length/\ls.length<=c/\g<w.heap.size/\w.cell? ⟨g,j*6,none⟩=some (.int .i64 ((ls.getD j ab.nil).num:Nat))/\w.cell? ⟨g,j*6+1,none⟩=some (.int .i64 ((ls.getD j ab.nil).op:Nat))/\w.cell? ⟨g,j*6+2,none⟩=some (.slice ap (ls.getD j ab.nil).places.length cp)/\
   w.cell? ⟨g,j*6+3,none⟩=some (.int .i64 (ls.getD j ab.nil).number)/\w.cell? ⟨g,j*6+4,none⟩=some (.int .i64 (ls.getD j ab.nil).flag)/\w.cell? ⟨g,j*6+5,none⟩=some (.slice an (ls.getD j ab.nil).next.length cn)/\
   aE z w (ls.getD j ab.nil) (.slice ap (ls.getD j ab.nil).places.length cp) (.slice an (ls.getD j ab.nil).next.length cn):=by
 obtain⟨g,cap,hv,hc,hg,aQ⟩:=bL h.row (by omega);simp only[Value.slice.injEq]at hv;obtain⟨rfl,rfl,rfl⟩:=hv;have hE:=h.each j hj;obtain⟨ap,cp,h1⟩:=a8 hE.places;obtain⟨an,cn,h2⟩:=a8 hE.next;have Uh:j<vs.length:=by rw[h.len];exact hj
 have hz:(ls.zip vs)[j]?=some (ls.getD j ab.nil,vs.getD j (undef,undef)):=by
  simp[List.getElem?_zip_eq_some,hj,Uh]
 have key:∀i,i<6->w.cell? ⟨g,j*6+i,none⟩=(cT (ls.getD j ab.nil,vs.getD j (undef,undef)))[i]?:=fun i hi=>by
  rw[aQ _ (by omega),aK,fk cT 6 (fun _=>rfl) _ j i hi,hz];rfl
 have k0:=key 0 (by decide);have k1:=key 1 (by decide);have k2:=key 2 (by decide);have k3:=key 3 (by decide);have k4:=key 4 (by decide);have k5:=key 5 (by decide);rw[h1,h2]at hE;refine⟨g,ap,cp,an,cn,rfl,rfl,hc,hg,k0,k1,?_,k3,k4,?_,hE⟩
 ·rw[k2];show some (vs.getD j (undef,undef)).1=_;rw[h1]
 ·rw[k5];show some (vs.getD j (undef,undef)).2=_;rw[h2]
theorem zt {z a:Nat}{w:World}{q:QP}{vl vb:Value}{us:List Value}{vss:List (List (Value×Value))}(h:fe z a w q vl vb us vss)(j:Nat)(hj:j<q.blocks.length):
  ∃gb cb ad c,vb=.slice (some ⟨gb,0,none⟩) q.blocks.length cb/\q.blocks.length<=cb/\gb<w.heap.size/\w.cell? ⟨gb,j,none⟩=some (.slice ad (q.blocks.getD j []).length c)/\cH z w (.slice ad (q.blocks.getD j []).length c) (q.blocks.getD j []) (vss.getD j []):=by
 obtain⟨g,cap,hv,hc,hg,aQ⟩:=bL h.blocks (by omega);have hE:=h.each j hj;obtain⟨ad,c,e⟩:=qL hE;rw[e]at hE;refine⟨g,cap,ad,c,hv,hc,hg,?_,hE⟩;rw[aQ j (by omega),<-e,jA,jB (by rw[h.L9];exact hj)];rfl
def fR (q:QP)(j i:Nat):List ab:=((q.blocks.getD j []).drop i)++(q.blocks.drop (j+1)).flatten
def gE (q:QP)(l:List ab):Option Nat:=(l.find? fun l=> !q.fits l).map (·.num)
theorem CS (q:QP):q.misfit=gE q (q.blocks.drop 0).flatten:=rfl
theorem CR (q:QP)(j:Nat)(hj:j<q.blocks.length):(q.blocks.drop j).flatten=fR q j 0:=by
 rw[jE hj,List.flatten_cons,fR,List.drop_zero];simp[hj]
theorem FB (q:QP)(j i:Nat)(hi:i<(q.blocks.getD j []).length):gE q (fR q j i)=if q.fits ((q.blocks.getD j []).getD i ab.nil)=true then gE q (fR q j (i+1))else some ((q.blocks.getD j []).getD i ab.nil).num:=by
 rw[gE,fR,jE hi,jW,List.find?_cons];have:(q.blocks.getD j []).getD i ab.nil=(q.blocks.getD j [])[i]:=by rw[jA,jB hi];rfl
 rw[this];cases q.fits (q.blocks.getD j [])[i]
 ·rfl
 ·rfl
theorem FA (q:QP)(j:Nat):fR q j (q.blocks.getD j []).length=(q.blocks.drop (j+1)).flatten:=by
 rw[fR,List.drop_length];rfl
def fY (q:QP)(w:World)(e:Ending)(w':World):Prop:=
 Below w.heap.size w w'/\match q.misfit with
  |some k=>e=.returned (.tuple #[.int .i64 (k:Nat),.bool true])
  |none=>e=.returned (.tuple #[.int .i64 0,.bool false])
theorem fY.some {q:QP}{w w':World}{k:Nat}(hb:Below w.heap.size w w')(h:q.misfit=some k):fY q w (.returned (.tuple #[.int .i64 (k:Nat),.bool true])) w':=by
 refine⟨hb,?_⟩;rw[h]
theorem fY.none {q:QP}{w w':World}(hb:Below w.heap.size w w')(h:q.misfit=none):fY q w (.returned (.tuple #[.int .i64 0,.bool false])) w':=by
 refine⟨hb,?_⟩;rw[h]
set_option maxRecDepth 20000 in
theorem CQ (q:QP)(nb z a:Nat)(vl vb:Value)(us:List Value)(vss:List (List (Value×Value)))(w:World)(hP:fe z a w q vl vb us vss)(dS:q.locals.length<=4000)(hq:vZ nb q)(mO:q.blocks.length<=4000)(cD:∀j,(q.blocks.getD j []).length<=4000)(E:Env w):
  Calls Tryz.prog 118 #[.pointer (some ⟨a,0,none⟩)] w (fY q w):=by
 obtain⟨p0,p1,pf0,pf1⟩:=fe.facts hP;have HM:Hid (q.misfit=gE q (q.blocks.drop 0).flatten):=CS q;obtain⟨adb,cb,vy⟩:=a8 hP.blocks;subst vy;go_enter Tryz.func118,Tryz.ntmps118
 go_wp2
 go_loopg [13] (q.blocks.length) (fun g v13 wr=>∃j:Nat,j<=q.blocks.length/\g+j=q.blocks.length/\v13=.int .i64 j/\Below w.heap.size w wr/\Hid (q.misfit=gE q (q.blocks.drop j).flatten))
 case atStart=>exact⟨0,jQ _,rfl,rfl,Below.refl _ _,HM⟩
 case round=>
  obtain⟨j,hj,SN,rfl,hB,HI⟩:=hrel;by_cases aP:j<q.blocks.length
  ·obtain⟨gb,cb',ad,c,e,ym,sX,aQ,Xm⟩:=zt (hP.below hB) j aP;simp only[Value.slice.injEq,true_and]at e;obtain⟨rfl,rfl⟩:=e;have S7:Hid (q.misfit=gE q (fR q j 0)):=HI.out.trans (congrArg _ (CR q j aP));have JY:=cD j;have oF:∀l∈q.blocks.getD j [],iB q.locals.length nb l:=hq.lines _ (by simp[aP]);have HN:Hid (fR q j (q.blocks.getD j []).length=(q.blocks.drop (j+1)).flatten):=FA q j;have HS:Hid (∀i,i<(q.blocks.getD j []).length->gE q (fR q j i)=if q.fits ((q.blocks.getD j []).getD i ab.nil)=true then gE q (fR q j (i+1))else some ((q.blocks.getD j []).getD i ab.nil).num):=FB q j;generalize q.blocks.getD j []=aD at*;generalize vss.getD j []=vsj at*;go_wp2
   go_loopg [19] (aD.length) (fun g v19 wn=>∃i:Nat,i<=aD.length/\g+i=aD.length/\v19=.int .i64 i/\Below w.heap.size w wn/\Below wr.heap.size wr wn/\Hid (q.misfit=gE q (fR q j i)))
   case atStart=>exact⟨0,jQ _,rfl,rfl,hB,Below.refl _ _,S7⟩
   case round=>
    obtain⟨i,hi,VS,rfl,To,Kr,HJ⟩:=hrel;by_cases hli:i<aD.length
    ·obtain⟨gl,ap,cp,an,cn,rfl,-,DS,rH,k0,k1,k2,k3,k4,k5,Cd⟩:=iI (Xm.below Kr) i hli;have hS:=HS.out i hli;have hl:=oF (aD.getD i ab.nil) (by simp[hli]);generalize aD.getD i ab.nil=l at*;have ko:Below wr.heap.size wr (wr.alloc (.cells #[.int .i64 (l.num:Nat),.int .i64 (l.op:Nat),.slice ap l.places.length cp,.int .i64 l.number,.int .i64 l.flag,.slice an l.next.length cn] 115)):=(Below.refl _ _).alloc (jC _) _;have BG:=To.trans (ko.mono To.size);have EO:=(hP.below BG);have KF:=Hl q l nb z a vl _ ap an cp cn _ EO.aD ⟨_,EO.locals⟩ dS hl (Cd.below ko) (E.on BG);have yt:(wr.alloc (.cells #[.int .i64 (l.num:Nat),.int .i64 (l.op:Nat),.slice ap l.places.length cp,.int .i64 l.number,.int .i64 l.flag,.slice an l.next.length cn] 115)).cell? ⟨wr.heap.size,0,none⟩=some (.int .i64 (l.num:Nat)):=by simp
     have gP:wr.heap.size<(wr.alloc (.cells #[.int .i64 (l.num:Nat),.int .i64 (l.op:Nat),.slice ap l.places.length cp,.int .i64 l.number,.int .i64 l.flag,.slice an l.next.length cn] 115)).heap.size:=by simp
     cases hf:q.fits l with
     |false=>
      have hx:q.misfit=some l.num:=by rw[HJ.out,hS,hf];rfl
      rw[hf]at KF;clear hf hS HS;go_wp2_with (go_at_call 171;refine KF.mono ?_;rintro e w1 ⟨rfl,aB⟩;have Ij:=(aB.cell (p:=⟨wr.heap.size,0,none⟩) gP).trans yt)
      go_ret2
      exact fY.some (BG.trans (aB.mono BG.size)) hx
     |true=>
      have WI:Hid (q.misfit=gE q (fR q j (i+1))):=by unfold Hid;rw[HJ.out,hS,hf];rfl
      rw[hf]at KF;clear hf hS HS;go_wp2_with (go_at_call 171;refine KF.mono ?_;rintro e w1 ⟨rfl,aB⟩)
      go_roundg (aD.length-(i+1))
      case measure=>omega
      case rel=>exact⟨i+1,by omega,by omega,by go_num,BG.trans (aB.mono BG.size),(Kr.trans (ko.mono Kr.size)).trans (aB.mono (jS Kr.size ko.size)),WI⟩
    ·have U2:Hid (q.misfit=gE q (q.blocks.drop (j+1)).flatten):=by
      unfold Hid;rw[HJ.out,show i=aD.length by omega,HN.out]
     go_wp2
     go_roundg (q.blocks.length-(j+1))
     case measure=>omega
     case rel=>exact⟨j+1,by omega,by omega,by go_num,To,U2⟩
  ·have hx:q.misfit=none:=by rw[HI.out,jT (by omega)];rfl
   go_wp2
   go_ret2
   exact fY.none hB hx
end PrjU
namespace FlwM
open Go Go.RowKit Sq Aux PrjF PrjG PrjJ PrjK PrjL PrjM PrjO PrjP PrjS PrjU FlwA FlwB FlwC FlwD FlwE FlwF FlwG FlwH FlwI FlwJ FlwK FlwL
theorem Eg {s:List Nat}(h:dn s)(k:Nat){v:Nat}(hv:v<16):dn (s.set k v):=
 ⟨by simpa using h.len,fun i=>by
  rw[jA,jd];split
  ·split
   ·exact hv
   ·decide
  ·have:=h.lt i;rwa [jA]at this⟩
theorem pR {m:Nat}(hm:m<16):∀(ps:List (Nat×Nat)) {s:List Nat},dn s->dn (eO m ps s)
 |[],_,h=>h
 |x::ps,s,h=>pR hm ps (s:=s.set (ah x) m) (Eg h _ hm)
theorem pW:∀(ps:List (Nat×Nat)) {s:List Nat},dn s->dn (dz ps s)
 |[],_,h=>h
 |x::ps,s,h=>pW ps (s:=s.set (ah x) (if x.2=3 then 8 else 1)) (Eg h _ (by split<;>decide))
theorem FE (q:QP)(x:Nat×Nat){s:List Nat}(h:dn s):da q x s<16:=by
 unfold da;split
 ·exact h.lt _
 ·decide
theorem ml (q:QP)(l:ab){s:List Nat}(h:dn s):dn (aR q l s):=by
 unfold aR;split
 ·exact pW _ h
 ·split
  ·exact pW _ h
  ·exact h
theorem fy (q:QP)(l:ab){s:List Nat}(h:dn s):dn (au q l s):=by
 have ht:=ml q l h;unfold au
 repeat' split
 ·exact pR (by decide) _ ht
 ·exact pR (FE q _ h) _ ht
 ·exact pR (by decide) _ ht
 ·exact pW _ ht
 ·exact ht
def cM (l:ab)(i:Nat)(s:List Nat):List Nat:=if l.op=20 then eO (if i=0 then 4 else 2) [l.places.getD 0 (0,0)] s else s
theorem eQ (l:ab)(i:Nat){s:List Nat}(h:dn s):dn (cM l i s):=by
 unfold cM;split
 ·exact pR (by split<;>decide) _ h
 ·exact h
abbrev St:=List Nat×List (List Nat)×(Nat->Bool)
def eF (l:ab):List Nat->Nat->St->St
 |[],_,t=>t
 |n::ns,i,t=>eF l ns (i+1) (cM l i t.1,cZ t.2.1 n (cM l i t.1),eh t.2.1 t.2.2 n (cM l i t.1))
def dQ (q:QP):List ab->St->St
 |[],t=>t
 |l::ls,t=>dQ q ls (eF l l.next 0 (au q l t.1,t.2))
def dx (q:QP)(E:List (List Nat))(O:Nat->Bool)(b:Nat):St:=dQ q (q.blocks.getD b []) (E.getD b [],E,O)
theorem yh (q:QP)(ls:List ab)(i:Nat)(hi:i<ls.length)(t:St):dQ q (ls.drop i) t=dQ q (ls.drop (i+1)) (eF (ls.getD i ab.nil) (ls.getD i ab.nil).next 0 (au q (ls.getD i ab.nil) t.1,t.2)):=by
 rw[jE hi];have:ls.getD i ab.nil=ls[i]:=by simp[hi]
 rw[this];rfl
theorem zY (l:ab)(ns:List Nat)(i:Nat)(hi:i<ns.length)(t:St):eF l (ns.drop i) i t=eF l (ns.drop (i+1)) (i+1) (cM l i t.1,cZ t.2.1 (ns.getD i 0) (cM l i t.1),eh t.2.1 t.2.2 (ns.getD i 0) (cM l i t.1)):=by
 rw[jE hi];have:ns.getD i 0=ns[i]:=by simp[hi]
 rw[this];rfl
theorem kt {z:Nat}{w:World}{ad:Option Addr}{n c:Nat}{ls:List ab}{vs:List (Value×Value)}(h:cH z w (.slice ad n c) ls vs)(j:Nat)(hj:j<ls.length):
  ∃g ap cp an cn,ad=some ⟨g,0,none⟩/\n=ls.length/\ls.length<=c/\g<w.heap.size/\w.cell? ⟨g,j*6,none⟩=some (.int .i64 ((ls.getD j ab.nil).num:Nat))/\w.cell? ⟨g,j*6+1,none⟩=some (.int .i64 ((ls.getD j ab.nil).op:Nat))/\w.cell? ⟨g,j*6+2,none⟩=some (.slice ap (ls.getD j ab.nil).places.length cp)/\
   w.cell? ⟨g,j*6+3,none⟩=some (.int .i64 (ls.getD j ab.nil).number)/\w.cell? ⟨g,j*6+4,none⟩=some (.int .i64 (ls.getD j ab.nil).flag)/\w.cell? ⟨g,j*6+5,none⟩=some (.slice an (ls.getD j ab.nil).next.length cn)/\
   vs.getD j (undef,undef)=(.slice ap (ls.getD j ab.nil).places.length cp,.slice an (ls.getD j ab.nil).next.length cn):=by
 obtain⟨g,cap,hv,hc,hg,aQ⟩:=bL h.row (by omega);simp only[Value.slice.injEq]at hv;obtain⟨rfl,rfl,rfl⟩:=hv;have hE:=h.each j hj;obtain⟨ap,cp,h1⟩:=a8 hE.places;obtain⟨an,cn,h2⟩:=a8 hE.next;have Uh:j<vs.length:=by rw[h.len];exact hj
 have hz:(ls.zip vs)[j]?=some (ls.getD j ab.nil,vs.getD j (undef,undef)):=by
  simp[List.getElem?_zip_eq_some,hj,Uh]
 have key:∀i,i<6->w.cell? ⟨g,j*6+i,none⟩=(cT (ls.getD j ab.nil,vs.getD j (undef,undef)))[i]?:=fun i hi=>by
  rw[aQ _ (by omega),aK,fk cT 6 (fun _=>rfl) _ j i hi,hz];rfl
 have k0:=key 0 (by decide);have k1:=key 1 (by decide);have k2:=key 2 (by decide);have k3:=key 3 (by decide);have k4:=key 4 (by decide);have k5:=key 5 (by decide);refine⟨g,ap,cp,an,cn,rfl,rfl,hc,hg,k0,k1,?_,k3,k4,?_,Prod.ext h1 h2⟩
 ·rw[k2];show some (vs.getD j (undef,undef)).1=_;rw[h1]
 ·rw[k5];show some (vs.getD j (undef,undef)).2=_;rw[h2]
theorem et {z a:Nat}{w:World}{q:QP}{vl vb:Value}{us:List Value}{vss:List (List (Value×Value))}(h:fe z a w q vl vb us vss)(j:Nat)(hj:j<q.blocks.length):
  ∃gb cb ad c,vb=.slice (some ⟨gb,0,none⟩) q.blocks.length cb/\q.blocks.length<=cb/\gb<w.heap.size/\w.cell? ⟨gb,j,none⟩=some (.slice ad (q.blocks.getD j []).length c)/\us.getD j undef=.slice ad (q.blocks.getD j []).length c:=by
 obtain⟨g,cap,hv,hc,hg,aQ⟩:=bL h.blocks (by omega);obtain⟨ad,c,e⟩:=qL (h.each j hj);refine⟨g,cap,ad,c,hv,hc,hg,?_,e⟩;rw[aQ j (by omega),<-e,jA,jB (by rw[h.L9];exact hj)];rfl
theorem LM {z:Nat}{w:World}{an:Option Addr}{cn:Nat}{l:ab}{vp:Value}(h:aE z w l vp (.slice an l.next.length cn))(j:Nat)(hj:j<l.next.length):
  ∃g,an=some ⟨g,0,none⟩/\l.next.length<=cn/\g<w.heap.size/\w.cell? ⟨g,j,none⟩=some (.int .i64 ((l.next.getD j 0:Nat):Int)):=by
 obtain⟨g,cap,hv,hc,hg,aQ⟩:=bL h.next (by omega);simp only[Value.slice.injEq]at hv;obtain⟨rfl,-,rfl⟩:=hv;refine⟨g,rfl,hc,hg,?_⟩;rw[aQ j (by omega)];simp[df,hj]
end FlwM
namespace FlwN
open Go Go.RowKit Sq Aux PrjF PrjG PrjJ PrjK PrjL PrjM PrjO PrjP PrjQ PrjS PrjU FlwA FlwB FlwC FlwD FlwE FlwF FlwG FlwH FlwI FlwJ FlwK FlwL FlwM
attribute [local go_sem ↓] bY bJ
section
variable {z x a ap mb:Nat} {w w':World} {q:QP} {vl vb:Value} {us:List Value} {vss:List (List (Value×Value))} {E:List (List Nat)} {O:Nat->Bool}
theorem fZ.line (h:fZ z x a ap mb w q vl vb us vss E O){b i:Nat}(hb:b<q.blocks.length)(hi:i<(q.blocks.getD b []).length){v1 v2:Value}(hv:(vss.getD b []).getD i (undef,undef)=(v1,v2)):aE z w ((q.blocks.getD b []).getD i ab.nil) v1 v2:=by
 have:=(h.prog.each b hb).each i hi;rw[hv]at this;exact this
set_option maxRecDepth 20000 in
theorem vE (h:fZ z x a ap mb w q vl vb us vss E O)(b:Nat)(hb:b<q.blocks.length)(hn:q.blocks.length<=4000)(dS:q.locals.length<=12)(hq:vZ q.blocks.length q)(cD:∀j,(q.blocks.getD j []).length<=4000):
  Calls Tryz.prog 189 #[.pointer (some ⟨x,0,none⟩),.int .i64 (b:Nat)] w fun e w'=>e=.returned (.tuple #[])/\fZ z x a ap mb w' q vl vb us vss (dx q E O b).2.1 (dx q E O b).2.2/\bI ap mb w w':=by
 have BO:b<E.length:=by rw[h.len];exact hb
 have hE:=h.row.ok BO;have Qg:=h.row.lt;have Wq:(b:Int)<(q.blocks.length:Nat):=by omega
 obtain⟨c0,c1,c2⟩:=h.facts;have has:=h.row.has b BO;have Lh:=h.row.of b BO;have HG:Hid (dx q E O b=dQ q ((q.blocks.getD b []).drop 0) (E.getD b [],E,O)):=rfl;have hZ:aj (w.alloc (.cells #[.int .u8 0,.int .u8 0,.int .u8 0,.int .u8 0,.int .u8 0,.int .u8 0,.int .u8 0,.int .u8 0,.int .u8 0,.int .u8 0,.int .u8 0,.int .u8 0,.int .u8 0,.int .u8 0,.int .u8 0,.int .u8 0,.int .u8 0,.int .u8 0,.int .u8 0,.int .u8 0,.int .u8 0,.int .u8 0,.int .u8 0,.int .u8 0] 209)) w.heap.size ak:=aj.new w (s:=ak) (by decide);have H3:Below w.heap.size w (w.alloc (.cells #[.int .u8 0,.int .u8 0,.int .u8 0,.int .u8 0,.int .u8 0,.int .u8 0,.int .u8 0,.int .u8 0,.int .u8 0,.int .u8 0,.int .u8 0,.int .u8 0,.int .u8 0,.int .u8 0,.int .u8 0,.int .u8 0,.int .u8 0,.int .u8 0,.int .u8 0,.int .u8 0,.int .u8 0,.int .u8 0,.int .u8 0,.int .u8 0] 209)):=(Below.refl _ _).alloc (jC _) _;have fp:=aj.room hZ;have mP:=fu hE.len;have hJ:=aj.store hZ hE.len;have qj:Below w.heap.size w ((w.alloc (.cells #[.int .u8 0,.int .u8 0,.int .u8 0,.int .u8 0,.int .u8 0,.int .u8 0,.int .u8 0,.int .u8 0,.int .u8 0,.int .u8 0,.int .u8 0,.int .u8 0,.int .u8 0,.int .u8 0,.int .u8 0,.int .u8 0,.int .u8 0,.int .u8 0,.int .u8 0,.int .u8 0,.int .u8 0,.int .u8 0,.int .u8 0,.int .u8 0] 209)).setCells w.heap.size 0 (ag (E.getD b []))):=aU H3 (jC _) _ _;have hW:=h.below qj;generalize E.getD b []=e0 at*;clear H3 hZ;go_enter Tryz.func189,Tryz.ntmps189
 go_upto_region 1 with fail
 generalize ((w.alloc (.cells #[.int .u8 0,.int .u8 0,.int .u8 0,.int .u8 0,.int .u8 0,.int .u8 0,.int .u8 0,.int .u8 0,.int .u8 0,.int .u8 0,.int .u8 0,.int .u8 0,.int .u8 0,.int .u8 0,.int .u8 0,.int .u8 0,.int .u8 0,.int .u8 0,.int .u8 0,.int .u8 0,.int .u8 0,.int .u8 0,.int .u8 0,.int .u8 0] 209)).setCells w.heap.size 0 (ag e0))=W at*;clear fp has Lh c0 c1 c2;obtain⟨c0,c1,c2⟩:=hW.facts;obtain⟨p0,p1,-,-⟩:=fe.facts hW.prog;obtain⟨gb,cb,adk,ck,rfl,ym,sX,aQ,DW⟩:=et hW.prog b hb;have JY:=cD b;have oF:∀l∈q.blocks.getD b [],iB q.locals.length q.blocks.length l:=hq.lines _ (by simp[hb]);have Cg:bI ap mb w W:=.mH qj;have ER:w.heap.size≠ap:=by omega
 have yk:Hid (∀wn E' O',fZ z x a ap mb wn q vl (.slice (some ⟨gb,0,none⟩) q.blocks.length cb) us vss E' O'->cH z wn (.slice adk (q.blocks.getD b []).length ck) (q.blocks.getD b []) (vss.getD b [])):=fun wn E' O' hwn=>by
  have h1:=hwn.prog.each b hb;rw[DW]at h1;exact h1
 have HL:Hid (∀wn E' O',fZ z x a ap mb wn q vl (.slice (some ⟨gb,0,none⟩) q.blocks.length cb) us vss E' O'->∀i,i<(q.blocks.getD b []).length->∀v1 v2,(vss.getD b []).getD i (undef,undef)=(v1,v2)->aE z wn ((q.blocks.getD b []).getD i ab.nil) v1 v2):=fun wn E' O' hwn i hi v1 v2 hv=>fZ.line hwn hb hi hv
 have HS:Hid (∀i,i<(q.blocks.getD b []).length->∀t:St,dQ q ((q.blocks.getD b []).drop i) t=dQ q ((q.blocks.getD b []).drop (i+1)) (eF ((q.blocks.getD b []).getD i ab.nil) ((q.blocks.getD b []).getD i ab.nil).next 0 (au q ((q.blocks.getD b []).getD i ab.nil) t.1,t.2))):=fun i hi t=>yh q _ i hi t
 generalize q.blocks.getD b []=aD at*;generalize vss.getD b []=vsj at*;have Yg:=h.kp.lt;have Yf:=hW.kp.lt;go_wp2
 go_loopg [27] (aD.length) (fun g v27 wr=>∃(i:Nat) (s':List Nat) (E':List (List Nat)) (O':Nat->Bool),i<=aD.length/\g+i=aD.length/\v27=.int .i64 i/\fZ z x a ap mb wr q vl (.slice (some ⟨gb,0,none⟩) q.blocks.length cb) us vss E' O'/\aj wr w.heap.size s'/\dn s'/\bI ap mb w wr/\Hid (dx q E O b=dQ q (aD.drop i) (s',E',O')))
 case atStart=>exact⟨0,e0,E,O,jQ _,rfl,rfl,hW,hJ,hE,Cg,HG⟩
 case round=>
  obtain⟨i,s',E',O',hi,VS,rfl,ju,rA,Cs,rB,HR⟩:=hrel;clear hJ HG hW qj Cg c0 c1 c2 p0 p1 aQ mP hE;by_cases hli:i<aD.length
  ·obtain⟨gl,apl,cp,an,cn,rfl,-,DS,rH,k0,k1,k2,k3,k4,k5,Oc⟩:=kt (yk.out wr E' O' ju) i hli;have hS:Hid (_=_):=HS.out i hli (s',E',O');have OH:Hid (∀wn E' O',fZ z x a ap mb wn q vl (.slice (some ⟨gb,0,none⟩) q.blocks.length cb) us vss E' O'->aE z wn (aD.getD i ab.nil) (.slice apl (aD.getD i ab.nil).places.length cp) (.slice an (aD.getD i ab.nil).next.length cn)):=fun wn E' O' hwn=>HL.out wn E' O' hwn i hli _ _ Oc
   have hl:=oF (aD.getD i ab.nil) (by simp[hli]);clear Oc;generalize aD.getD i ab.nil=l at*;have ko:Below wr.heap.size wr (wr.alloc (.cells #[.int .i64 (l.num:Nat),.int .i64 (l.op:Nat),.slice apl l.places.length cp,.int .i64 l.number,.int .i64 l.flag,.slice an l.next.length cn] 115)):=(Below.refl _ _).alloc (jC _) _;have Ny:=ju.below ko;have BL:=rA.below ko rA.lt;have VE:=rB.on ko;have gY:(wr.alloc (.cells #[.int .i64 (l.num:Nat),.int .i64 (l.op:Nat),.slice apl l.places.length cp,.int .i64 l.number,.int .i64 l.flag,.slice an l.next.length cn] 115)).heap[wr.heap.size]?=some (.cells #[.int .i64 (l.num:Nat),.int .i64 (l.op:Nat),.slice apl l.places.length cp,.int .i64 l.number,.int .i64 l.flag,.slice an l.next.length cn] 115 (0,0)):=jD;have YG:=rB.size;go_upto_region 4 with fail
   generalize (wr.alloc (.cells #[.int .i64 (l.num:Nat),.int .i64 (l.op:Nat),.slice apl l.places.length cp,.int .i64 l.number,.int .i64 l.flag,.slice an l.next.length cn] 115))=WL at*;clear k0 k1 k2 k3 k4 k5 ko;have jl:Below WL.heap.size WL WL.drew:=below_drewN (Below.refl _ _) 1;have sT:=Ny.below jl;have z7:aj WL.drew w.heap.size s':=BL;have sY:WL.drew.heap[wr.heap.size]?=some (.cells #[.int .i64 (l.num:Nat),.int .i64 (l.op:Nat),.slice apl l.places.length cp,.int .i64 l.number,.int .i64 l.flag,.slice an l.next.length cn] 115 (0,0)):=gY;have Qd:=VE.on jl;obtain⟨c0,c1,c2⟩:=Ny.facts;have l0:=(cell_of_heap gY 0).trans (by rfl:_=some (Value.int .i64 (l.num:Nat)));have l1:=(cell_of_heap gY 1).trans (by rfl:_=some (Value.int .i64 (l.op:Nat)));have l2:=(cell_of_heap gY 2).trans (by rfl:_=some (Value.slice apl l.places.length cp));have l3:=(cell_of_heap gY 3).trans (by rfl:_=some (Value.int .i64 l.number));have l4:=(cell_of_heap gY 4).trans (by rfl:_=some (Value.int .i64 l.flag));have l5:=(cell_of_heap gY 5).trans (by rfl:_=some (Value.slice an l.next.length cn));have KP:=mc q l q.blocks.length z a w.heap.size vl _ apl an cp cn s' WL.drew ⟨sT.prog.aD,⟨_,sT.prog.locals⟩⟩ dS hl (OH.out _ _ _ sT) z7 Cs.lt;go_cut [6] (fun v6 wc=>v6=.pointer (some ⟨wr.heap.size,0,none⟩)/\aj wc w.heap.size (au q l s')/\aW w.heap.size WL.drew wc)
   case first=>
    go_region_with (go_at_call 128;refine KP.mono ?_;rintro e w1 ⟨rfl,gC,jj⟩)
    all_goals go_wp2_with fail
    all_goals
     go_meet
     case rel=>exact⟨rfl,gC,jj⟩
   case rest=>
    obtain⟨rfl,gC,jj⟩:=hcut;have k9:=sT.other jj z7 ER;have Lc:=lt_of_heap sY;have SX:w.heap.size<wr.heap.size:=rA.lt;have px:wc.heap[wr.heap.size]?=some (.cells #[.int .i64 (l.num:Nat),.int .i64 (l.op:Nat),.slice apl l.places.length cp,.int .i64 l.number,.int .i64 l.flag,.slice an l.next.length cn] 115 (0,0)):=(jj.block _ Lc (by omega)).trans sY;have Qb:bI ap mb w wc:=Qd.since jj (jC _);have Lq:=fy q l Cs;have Md:Hid (dx q E O b=dQ q (aD.drop (i+1)) (eF l l.next 0 (au q l s',E',O'))):=HR.out.trans hS.out;have l5:=(cell_of_heap px 5).trans (by rfl:_=some (Value.slice an l.next.length cn));have iE:l.next.length<=3:=by
     rw[hl.pI];have key:∀op:Fin 23,((ae op.val).filter (·==98)).length<=3:=by decide
     exact key ⟨l.op,hl.op⟩
    clear KP hS HR Ny BL VE gY jl sT z7 sY Qd c0 c1 c2 l0 l1 l2 l3 l4 jj Lc Cs rA rB ju YG;generalize au q l s'=s1 at*;have U8:Hid (eF l l.next 0 (s1,E',O')=eF l (l.next.drop 0) 0 (s1,E',O')):=rfl;clear l5;have l5:=(cell_of_heap px 5).trans (by rfl:_=some (Value.slice an l.next.length cn));clear rH DS;generalize wr.heap.size=lb at*;go_wp2
    go_loopg [40] (l.next.length) (fun g v40 wn=>∃(j:Nat) (s2:List Nat) (E2:List (List Nat)) (O2:Nat->Bool),j<=l.next.length/\g+j=l.next.length/\v40=.int .i64 j/\fZ z x a ap mb wn q vl (.slice (some ⟨gb,0,none⟩) q.blocks.length cb) us vss E2 O2/\aj wn w.heap.size s2/\dn s2/\wn.heap[lb]?=some (.cells #[.int .i64 (l.num:Nat),.int .i64 (l.op:Nat),.slice apl l.places.length cp,.int .i64 l.number,.int .i64 l.flag,.slice an l.next.length cn] 115 (0,0))/\bI ap mb w wn/\Hid (eF l l.next 0 (s1,E',O')=eF l (l.next.drop j) j (s2,E2,O2)))
    case atStart=>exact⟨0,s1,E',O',jQ _,rfl,rfl,k9,gC,Lq,px,Qb,U8⟩
    case round=>
     obtain⟨j,s2,E2,O2,hj,SN,rfl,JO,Ms,RB,Ig,OW,HN⟩:=hrel;clear k9 gC Lq px Qb U8 l5;by_cases hlj:j<l.next.length
     ·obtain⟨gn,rfl,Pb,QY,Zc⟩:=LM (OH.out _ _ _ JO) j hlj;have jw:l.next.getD j 0<q.blocks.length:=hl.next _ (by rw[jA,jB hlj];exact jL hlj);have Q2:(j:Int)<(l.next.length:Nat):=by omega
      have N8:=eQ l j RB;have R7:Hid (_=_):=HN.out.trans (zY l l.next j hlj (s2,E2,O2));generalize l.next.getD j 0=nx at*;have m1:=(cell_of_heap Ig 1).trans (by rfl:_=some (Value.int .i64 (l.op:Nat)));have m2:=(cell_of_heap Ig 2).trans (by rfl:_=some (Value.slice apl l.places.length cp));have Rc:=lt_of_heap Ig;by_cases Hv:l.op=20
      ·have BF:(((l.op:Nat):Int)==20)=true:=by rw[Hv];rfl
       have hlen:l.places.length=1:=by rw[hl.cP,Hv];rfl
       obtain⟨gp,rfl,kC,Cl,d1,d2⟩:=aS (OH.out _ _ _ JO) hlen 0 (by omega);have hx:=(hl.places _ (bU (j:=0) (by omega))).1;have iA:Hid (cM l j s2=eO (if j=0 then 4 else 2) [l.places.getD 0 (0,0)] s2):=by unfold Hid;rw[cM,jb Hv]
       rw[iA.out]at R7 N8;have e1:wr.cell? ⟨gp,0,none⟩=some (.int .i64 ((l.places.getD 0 (0,0)).1:Nat)):=d1;have e2:wr.cell? ⟨gp,1,none⟩=some (.int .i64 ((l.places.getD 0 (0,0)).2:Nat)):=d2;have hid:(0:Int)<(l.places.length:Nat):=by omega
       clear d1 d2;generalize l.places.getD 0 (0,0)=y at*;have Uo:(if j=0 then 4 else 2:Nat)<16:=by split<;>decide
       have KM:=qV j wr.drew;have Vc:=qV j (wr.alloc (.cells #[.int .i64 (y.1:Nat),.int .i64 (y.2:Nat)] 119)).drew;generalize (if j=0 then 4 else 2:Nat)=may at*;have JR:Below wr.heap.size wr (wr.alloc (.cells #[.int .i64 (y.1:Nat),.int .i64 (y.2:Nat)] 119)):=(Below.refl _ _).alloc (jC _) _;have H0:Below wr.heap.size wr (wr.alloc (.cells #[.int .i64 (y.1:Nat),.int .i64 (y.2:Nat)] 119)).drew:=below_drewN JR 1;have TF:aj (wr.alloc (.cells #[.int .i64 (y.1:Nat),.int .i64 (y.2:Nat)] 119)).drew w.heap.size s2:=Ms.below H0 Ms.lt;have Qf:=JO.below H0;have VF:=OW.on H0;have Q9:=(H0.block lb Rc).trans Ig;have dL:ay wr.heap.size (wr.alloc (.cells #[.int .i64 (y.1:Nat),.int .i64 (y.2:Nat)] 119)).drew (.slice (some ⟨wr.heap.size,0,none⟩) 1 1) [y]:=eX wr y (n:=wr.heap.size) rfl;have KP:=fz may w.heap.size _ 1 1 _ [y] s2 _ TF dL (fun v hv=>by simp only[List.mem_singleton]at hv;subst hv;omega) Uo;have gP:(wr.alloc (.cells #[.int .i64 (y.1:Nat),.int .i64 (y.2:Nat)] 119)).heap.size=wr.heap.size+1:=by simp
       rw[hlen]at*;go_upto_region 9 with fail
       go_cut [7,8] (fun v7 v8 wc=>v7=.int .i64 (j:Nat)/\v8=.int .i64 (nx:Nat)/\aj wc w.heap.size (eO may [y] s2)/\∃wp,fZ z x a ap mb wp q vl (.slice (some ⟨gb,0,none⟩) q.blocks.length cb) us vss E2 O2/\aj wp w.heap.size s2/\wp.heap[lb]?=some (.cells #[.int .i64 (l.num:Nat),.int .i64 (l.op:Nat),.slice (some ⟨gp,0,none⟩) 1 cp,.int .i64 l.number,.int .i64 l.flag,.slice (some ⟨gn,0,none⟩) l.next.length cn] 115 (0,0))/\bI ap mb w wp/\aW w.heap.size wp wc)
       case first=>
        go_region_with (first
         |(go_at_call 177;refine KP.mono ?_;rintro e w2 ⟨rfl,mN,jk⟩)
         |(go_at_call 218;refine KM.mono ?_;rintro e w2 ⟨rfl,rfl⟩)
         |(go_at_call 218;refine Vc.mono ?_;rintro e w2 ⟨rfl,rfl⟩))
        all_goals go_wp2_with fail
        all_goals
         go_meet
         case rel=>exact⟨rfl,rfl,mN,_,Qf,TF,Q9,VF,jk⟩
       case rest=>
        obtain⟨rfl,rfl,mN,wp,XP,XM,Ra,XO,jk⟩:=hcut;clear KM Vc KP Qf TF Q9 VF JR H0 dL e1 e2 m1 m2 gP;have p5:=XP.other jk XM ER;have E0:=(jk.block lb (lt_of_heap Ra) (by omega)).trans Ra;have TG:bI ap mb w wc:=XO.since jk (jC _);have j1:=aj.has mN;have j2:=aj.of mN;have KL:=tj p5 nx jw hn _ N8;generalize eO may [y] s2=s3 at*;go_wp2_with (go_at_call 187;refine KL.mono ?_;rintro e w3 ⟨rfl,Qe,vH⟩)
        go_roundg (l.next.length-(j+1))
        case measure=>omega
        case rel=>
         refine⟨j+1,s3,_,_,by omega,by omega,by go_num,Qe,⟨mN.1,(vH.block _ mN.lt ER (by omega)).trans mN.2⟩,N8,(vH.block _ (lt_of_heap E0) (by omega) (by omega)).trans E0,TG.trans vH,R7⟩
      ·have BF:(((l.op:Nat):Int)==20)=false:=by rw[jZ];omega
       have iA:Hid (cM l j s2=s2):=by unfold Hid;rw[cM,ja Hv]
       rw[iA.out]at R7;have j1:=aj.has Ms;have j2:=aj.of Ms;have KL:=tj JO nx jw hn s2 RB;go_wp2_with (go_at_call 187;refine KL.mono ?_;rintro e w3 ⟨rfl,Qe,vH⟩)
       go_roundg (l.next.length-(j+1))
       case measure=>omega
       case rel=>
        refine⟨j+1,s2,_,_,by omega,by omega,by go_num,Qe,⟨Ms.1,(vH.block _ Ms.lt ER (by omega)).trans Ms.2⟩,RB,(vH.block _ Rc (by omega) (by omega)).trans Ig,OW.trans vH,R7⟩
     ·go_wp2
      go_roundg (aD.length-(i+1))
      case measure=>omega
      case rel=>
       refine⟨i+1,s2,E2,O2,by omega,by omega,by go_num,JO,Ms,RB,OW,?_⟩;have ql:l.next.drop j=[]:=jT (by omega);unfold Hid;rw[Md.out,HN.out,ql];rfl
  ·go_wp2
   go_end0
   refine⟨rfl,?_,rB⟩;rw[HR.out,jT (by omega)];exact ju
end
end FlwN
end Go.Proofs.YtmlgajhhnojdjaaGreatDoor

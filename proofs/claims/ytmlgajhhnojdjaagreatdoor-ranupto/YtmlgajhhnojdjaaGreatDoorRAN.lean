import Derived.Test.YtmlgajhhnojdjaaGreatDoorRAM
import Derived.Deep.DeepCutAuto
namespace Go.Proofs.YtmlgajhhnojdjaaGreatDoor
namespace PrjU
open Go Go.RowKit Sq Aux PrjF PrjG PrjH PrjI PrjJ PrjK PrjL PrjM PrjN PrjO PrjP PrjQ PrjR PrjS PrjT
theorem yH {z:Nat}{w:World}{v:Value}{ls:List ab}{vs:List (Value×Value)}(h:fi z w v ls vs):∃ad c,v=.slice ad ls.length c:=ca h.row
theorem FT {z:Nat}{w:World}{ad:Option Addr}{n c:Nat}{ls:List ab}{vs:List (Value×Value)}(h:fi z w (.slice ad n c) ls vs)(j:Nat)(hj:j<ls.length):
  ∃g ap cp an cn,ad=some ⟨g,0,none⟩/\n=ls.length/\ls.length<=c/\g<w.heap.size/\w.cell? ⟨g,j*6,none⟩=some (.int .i64 ((ls.getD j ab.nil).num:Nat))/\w.cell? ⟨g,j*6+1,none⟩=some (.int .i64 ((ls.getD j ab.nil).op:Nat))/\w.cell? ⟨g,j*6+2,none⟩=some (.slice ap (ls.getD j ab.nil).places.length cp)/\
   w.cell? ⟨g,j*6+3,none⟩=some (.int .i64 (ls.getD j ab.nil).number)/\w.cell? ⟨g,j*6+4,none⟩=some (.int .i64 (ls.getD j ab.nil).flag)/\w.cell? ⟨g,j*6+5,none⟩=some (.slice an (ls.getD j ab.nil).next.length cn)/\
   bq z w (ls.getD j ab.nil) (.slice ap (ls.getD j ab.nil).places.length cp) (.slice an (ls.getD j ab.nil).next.length cn):=by
 obtain⟨g,cap,hv,hc,hg,aD⟩:=dK h.row (by omega);simp only[Value.slice.injEq]at hv;obtain⟨rfl,rfl,rfl⟩:=hv;have hE:=h.each j hj;obtain⟨ap,cp,h1⟩:=ca hE.places;obtain⟨an,cn,h2⟩:=ca hE.next;have hjv:j<vs.length:=by rw[h.len];exact hj
 have hz:(ls.zip vs)[j]?=some (ls.getD j ab.nil,vs.getD j (undef,undef)):=by
  simp[List.getElem?_zip_eq_some,hj,hjv]
 have key:∀i,i<6->w.cell? ⟨g,j*6+i,none⟩=(mD (ls.getD j ab.nil,vs.getD j (undef,undef)))[i]?:=fun i hi=>by
  rw[aD _ (by omega),iG,jn mD 6 (fun _=>rfl) _ j i hi,hz];rfl
 have k0:=key 0 (by decide);have k1:=key 1 (by decide);have k2:=key 2 (by decide);have k3:=key 3 (by decide);have k4:=key 4 (by decide);have k5:=key 5 (by decide);rw[h1,h2]at hE;refine⟨g,ap,cp,an,cn,rfl,rfl,hc,hg,k0,k1,?_,k3,k4,?_,hE⟩
 ·rw[k2];show some (vs.getD j (undef,undef)).1=_;rw[h1]
 ·rw[k5];show some (vs.getD j (undef,undef)).2=_;rw[h2]
theorem FU {z a:Nat}{w:World}{q:QP}{vl vb:Value}{us:List Value}{vss:List (List (Value×Value))}(h:lE z a w q vl vb us vss)(j:Nat)(hj:j<q.blocks.length):
  ∃gb cb ad c,vb=.slice (some ⟨gb,0,none⟩) q.blocks.length cb/\q.blocks.length<=cb/\gb<w.heap.size/\w.cell? ⟨gb,j,none⟩=some (.slice ad (q.blocks.getD j []).length c)/\fi z w (.slice ad (q.blocks.getD j []).length c) (q.blocks.getD j []) (vss.getD j []):=by
 obtain⟨g,cap,hv,hc,hg,aD⟩:=dK h.blocks (by omega);have hE:=h.each j hj;obtain⟨ad,c,e⟩:=yH hE;rw[e]at hE;refine⟨g,cap,ad,c,hv,hc,hg,?_,hE⟩;rw[aD j (by omega),<-e,jA,jB (by rw[h.WM];exact hj)];rfl
def ku (q:QP)(j i:Nat):List ab:=((q.blocks.getD j []).drop i)++(q.blocks.drop (j+1)).flatten
def lq (q:QP)(l:List ab):Option Nat:=(l.find? fun l=> !q.fits l).map (·.num)
theorem Lv (q:QP):q.misfit=lq q (q.blocks.drop 0).flatten:=rfl
theorem Lu (q:QP)(j:Nat)(hj:j<q.blocks.length):(q.blocks.drop j).flatten=ku q j 0:=by
 rw[jE hj,List.flatten_cons,ku,List.drop_zero];simp[hj]
theorem OY (q:QP)(j i:Nat)(hi:i<(q.blocks.getD j []).length):lq q (ku q j i)=if q.fits ((q.blocks.getD j []).getD i ab.nil)=true then lq q (ku q j (i+1))else some ((q.blocks.getD j []).getD i ab.nil).num:=by
 rw[lq,ku,jE hi,jW,List.find?_cons];have:(q.blocks.getD j []).getD i ab.nil=(q.blocks.getD j [])[i]:=by rw[jA,jB hi];rfl
 rw[this];cases q.fits (q.blocks.getD j [])[i]
 ·rfl
 ·rfl
theorem OX (q:QP)(j:Nat):ku q j (q.blocks.getD j []).length=(q.blocks.drop (j+1)).flatten:=by
 rw[ku,List.drop_length];rfl
def kJ (q:QP)(w:World)(e:Ending)(w':World):Prop:=
 Below w.heap.size w w'/\match q.misfit with
  |some k=>e=.returned (.tuple #[.int .i64 (k:Nat),.bool true])
  |none=>e=.returned (.tuple #[.int .i64 0,.bool false])
theorem kJ.some {q:QP}{w w':World}{k:Nat}(hb:Below w.heap.size w w')(h:q.misfit=some k):kJ q w (.returned (.tuple #[.int .i64 (k:Nat),.bool true])) w':=by
 refine⟨hb,?_⟩;rw[h]
theorem kJ.none {q:QP}{w w':World}(hb:Below w.heap.size w w')(h:q.misfit=none):kJ q w (.returned (.tuple #[.int .i64 0,.bool false])) w':=by
 refine⟨hb,?_⟩;rw[h]
set_option maxRecDepth 20000 in
set_option maxHeartbeats 2000000 in
theorem Lt (q:QP)(nb z a:Nat)(vl vb:Value)(us:List Value)(vss:List (List (Value×Value)))(w:World)(hP:lE z a w q vl vb us vss)(ie:q.locals.length<=4000)(hq:Jy nb q)(ql:q.blocks.length<=4000)(eY:∀j,(q.blocks.getD j []).length<=4000)(E:Env w):
  Calls Tryz.prog 118 #[.pointer (some ⟨a,0,none⟩)] w (kJ q w):=by
 obtain⟨p0,p1,pf0,pf1⟩:=lE.facts hP;have HM:Hid (q.misfit=lq q (q.blocks.drop 0).flatten):=Lv q;obtain⟨adb,cb,X8⟩:=ca hP.blocks;subst X8;go_enter Tryz.func118,Tryz.ntmps118
 go_wp2
 go_loopg [13] (q.blocks.length) (fun g v13 wr=>∃j:Nat,j<=q.blocks.length/\g+j=q.blocks.length/\v13=.int .i64 j/\Below w.heap.size w wr/\Hid (q.misfit=lq q (q.blocks.drop j).flatten))
 case atStart=>exact⟨0,jQ _,rfl,rfl,Below.refl _ _,HM⟩
 case round=>
  obtain⟨j,hj,hgj,rfl,hB,HI⟩:=hrel;by_cases aL:j<q.blocks.length
  ·obtain⟨gb,cb',ad,c,e,FC,Rx,aD,hBk⟩:=FU (hP.below hB) j aL;simp only[Value.slice.injEq,true_and]at e;obtain⟨rfl,rfl⟩:=e;have WR:Hid (q.misfit=lq q (ku q j 0)):=HI.out.trans (congrArg _ (Lu q j aL));have la:=eY j;have cf:∀l∈q.blocks.getD j [],tS q.locals.length nb l:=hq.lines _ (by simp[aL]);have HN:Hid (ku q j (q.blocks.getD j []).length=(q.blocks.drop (j+1)).flatten):=OX q j;have HS:Hid (∀i,i<(q.blocks.getD j []).length->lq q (ku q j i)=if q.fits ((q.blocks.getD j []).getD i ab.nil)=true then lq q (ku q j (i+1))else some ((q.blocks.getD j []).getD i ab.nil).num):=OY q j;generalize q.blocks.getD j []=aJ at*;generalize vss.getD j []=vsj at*;go_wp2
   go_loopg [19] (aJ.length) (fun g v19 wn=>∃i:Nat,i<=aJ.length/\g+i=aJ.length/\v19=.int .i64 i/\Below w.heap.size w wn/\Below wr.heap.size wr wn/\Hid (q.misfit=lq q (ku q j i)))
   case atStart=>exact⟨0,jQ _,rfl,rfl,hB,Below.refl _ _,WR⟩
   case round=>
    obtain⟨i,hi,YO,rfl,hBn,UA,HJ⟩:=hrel;by_cases Cp:i<aJ.length
    ·obtain⟨gl,ap,cp,an,cn,rfl,-,AW,Wh,k0,k1,k2,k3,k4,k5,hLA⟩:=FT (hBk.below UA) i Cp;have hS:=HS.out i Cp;have hl:=cf (aJ.getD i ab.nil) (by simp[Cp]);generalize aJ.getD i ab.nil=l at*;have zJ:Below wr.heap.size wr (wr.alloc (.cells #[.int .i64 (l.num:Nat),.int .i64 (l.op:Nat),.slice ap l.places.length cp,.int .i64 l.number,.int .i64 l.flag,.slice an l.next.length cn] 115)):=(Below.refl _ _).alloc (jC _) _;have Jm:=hBn.trans (zJ.mono hBn.size);have UC:=(hP.below Jm);have KF:=Q7 q l nb z a vl _ ap an cp cn _ UC.aJ ⟨_,UC.locals⟩ ie hl (hLA.below zJ) (E.on Jm);have Cq:(wr.alloc (.cells #[.int .i64 (l.num:Nat),.int .i64 (l.op:Nat),.slice ap l.places.length cp,.int .i64 l.number,.int .i64 l.flag,.slice an l.next.length cn] 115)).cell? ⟨wr.heap.size,0,none⟩=some (.int .i64 (l.num:Nat)):=by simp
     have ly:wr.heap.size<(wr.alloc (.cells #[.int .i64 (l.num:Nat),.int .i64 (l.op:Nat),.slice ap l.places.length cp,.int .i64 l.number,.int .i64 l.flag,.slice an l.next.length cn] 115)).heap.size:=by simp
     cases hf:q.fits l with
     |false=>
      have hx:q.misfit=some l.num:=by rw[HJ.out,hS,hf];rfl
      rw[hf]at KF;clear hf hS HS;go_wp2_with (go_at_call 171;refine KF.mono ?_;rintro e w1 ⟨rfl,aw⟩;have RH:=(aw.cell (p:=⟨wr.heap.size,0,none⟩) ly).trans Cq)
      go_ret2
      exact kJ.some (Jm.trans (aw.mono Jm.size)) hx
     |true=>
      have HJ2:Hid (q.misfit=lq q (ku q j (i+1))):=by unfold Hid;rw[HJ.out,hS,hf];rfl
      rw[hf]at KF;clear hf hS HS;go_wp2_with (go_at_call 171;refine KF.mono ?_;rintro e w1 ⟨rfl,aw⟩)
      go_roundg (aJ.length-(i+1))
      case measure=>omega
      case rel=>exact⟨i+1,by omega,by omega,by go_num,Jm.trans (aw.mono Jm.size),(UA.trans (zJ.mono UA.size)).trans (aw.mono (jS UA.size zJ.size)),HJ2⟩
    ·have HI3:Hid (q.misfit=lq q (q.blocks.drop (j+1)).flatten):=by
      unfold Hid;rw[HJ.out,show i=aJ.length by omega,HN.out]
     go_wp2
     go_roundg (q.blocks.length-(j+1))
     case measure=>omega
     case rel=>exact⟨j+1,by omega,by omega,by go_num,hBn,HI3⟩
  ·have hx:q.misfit=none:=by rw[HI.out,jT (by omega)];rfl
   go_wp2
   go_ret2
   exact kJ.none hB hx
end PrjU
namespace FlwM
open Go Go.RowKit Sq Aux PrjF PrjG PrjJ PrjK PrjL PrjM PrjO PrjP PrjS PrjU FlwA FlwB FlwC FlwD FlwE FlwF FlwG FlwH FlwI FlwJ FlwK FlwL
theorem Nj {s:List Nat}(h:eI s)(k:Nat){v:Nat}(hv:v<16):eI (s.set k v):=
 ⟨by simpa using h.len,fun i=>by
  rw[jA,jd];split
  ·split
   ·exact hv
   ·decide
  ·have:=h.lt i;rwa [jA]at this⟩
theorem xd {m:Nat}(hm:m<16):∀(ps:List (Nat×Nat)) {s:List Nat},eI s->eI (gS m ps s)
 |[],_,h=>h
 |x::ps,s,h=>xd hm ps (s:=s.set (ah x) m) (Nj h _ hm)
theorem xn:∀(ps:List (Nat×Nat)) {s:List Nat},eI s->eI (dC ps s)
 |[],_,h=>h
 |x::ps,s,h=>xn ps (s:=s.set (ah x) (if x.2=3 then 8 else 1)) (Nj h _ (by split<;>decide))
theorem O0 (q:QP)(x:Nat×Nat){s:List Nat}(h:eI s):dn q x s<16:=by
 unfold dn;split
 ·exact h.lt _
 ·decide
theorem BQ (q:QP)(l:ab){s:List Nat}(h:eI s):eI (cG q l s):=by
 unfold cG;split
 ·exact xn _ h
 ·split
  ·exact xn _ h
  ·exact h
theorem gm (q:QP)(l:ab){s:List Nat}(h:eI s):eI (bm q l s):=by
 have ht:=BQ q l h;unfold bm
 repeat' split
 ·exact xd (by decide) _ ht
 ·exact xd (O0 q _ h) _ ht
 ·exact xd (by decide) _ ht
 ·exact xn _ ht
 ·exact ht
def cv (l:ab)(i:Nat)(s:List Nat):List Nat:=if l.op=20 then gS (if i=0 then 4 else 2) [l.places.getD 0 (0,0)] s else s
theorem gv (l:ab)(i:Nat){s:List Nat}(h:eI s):eI (cv l i s):=by
 unfold cv;split
 ·exact xd (by split<;>decide) _ h
 ·exact h
abbrev St:=List Nat×List (List Nat)×(Nat->Bool)
def gP (l:ab):List Nat->Nat->St->St
 |[],_,t=>t
 |n::ns,i,t=>gP l ns (i+1) (cv l i t.1,eP t.2.1 n (cv l i t.1),gY t.2.1 t.2.2 n (cv l i t.1))
def fQ (q:QP):List ab->St->St
 |[],t=>t
 |l::ls,t=>fQ q ls (gP l l.next 0 (bm q l t.1,t.2))
def gJ (q:QP)(E:List (List Nat))(O:Nat->Bool)(b:Nat):St:=fQ q (q.blocks.getD b []) (E.getD b [],E,O)
theorem En (q:QP)(ls:List ab)(i:Nat)(hi:i<ls.length)(t:St):fQ q (ls.drop i) t=fQ q (ls.drop (i+1)) (gP (ls.getD i ab.nil) (ls.getD i ab.nil).next 0 (bm q (ls.getD i ab.nil) t.1,t.2)):=by
 rw[jE hi];have:ls.getD i ab.nil=ls[i]:=by simp[hi]
 rw[this];rfl
theorem Gx (l:ab)(ns:List Nat)(i:Nat)(hi:i<ns.length)(t:St):gP l (ns.drop i) i t=gP l (ns.drop (i+1)) (i+1) (cv l i t.1,eP t.2.1 (ns.getD i 0) (cv l i t.1),gY t.2.1 t.2.2 (ns.getD i 0) (cv l i t.1)):=by
 rw[jE hi];have:ns.getD i 0=ns[i]:=by simp[hi]
 rw[this];rfl
theorem pr {z:Nat}{w:World}{ad:Option Addr}{n c:Nat}{ls:List ab}{vs:List (Value×Value)}(h:fi z w (.slice ad n c) ls vs)(j:Nat)(hj:j<ls.length):
  ∃g ap cp an cn,ad=some ⟨g,0,none⟩/\n=ls.length/\ls.length<=c/\g<w.heap.size/\w.cell? ⟨g,j*6,none⟩=some (.int .i64 ((ls.getD j ab.nil).num:Nat))/\w.cell? ⟨g,j*6+1,none⟩=some (.int .i64 ((ls.getD j ab.nil).op:Nat))/\w.cell? ⟨g,j*6+2,none⟩=some (.slice ap (ls.getD j ab.nil).places.length cp)/\
   w.cell? ⟨g,j*6+3,none⟩=some (.int .i64 (ls.getD j ab.nil).number)/\w.cell? ⟨g,j*6+4,none⟩=some (.int .i64 (ls.getD j ab.nil).flag)/\w.cell? ⟨g,j*6+5,none⟩=some (.slice an (ls.getD j ab.nil).next.length cn)/\
   vs.getD j (undef,undef)=(.slice ap (ls.getD j ab.nil).places.length cp,.slice an (ls.getD j ab.nil).next.length cn):=by
 obtain⟨g,cap,hv,hc,hg,aD⟩:=dK h.row (by omega);simp only[Value.slice.injEq]at hv;obtain⟨rfl,rfl,rfl⟩:=hv;have hE:=h.each j hj;obtain⟨ap,cp,h1⟩:=ca hE.places;obtain⟨an,cn,h2⟩:=ca hE.next;have hjv:j<vs.length:=by rw[h.len];exact hj
 have hz:(ls.zip vs)[j]?=some (ls.getD j ab.nil,vs.getD j (undef,undef)):=by
  simp[List.getElem?_zip_eq_some,hj,hjv]
 have key:∀i,i<6->w.cell? ⟨g,j*6+i,none⟩=(mD (ls.getD j ab.nil,vs.getD j (undef,undef)))[i]?:=fun i hi=>by
  rw[aD _ (by omega),iG,jn mD 6 (fun _=>rfl) _ j i hi,hz];rfl
 have k0:=key 0 (by decide);have k1:=key 1 (by decide);have k2:=key 2 (by decide);have k3:=key 3 (by decide);have k4:=key 4 (by decide);have k5:=key 5 (by decide);refine⟨g,ap,cp,an,cn,rfl,rfl,hc,hg,k0,k1,?_,k3,k4,?_,Prod.ext h1 h2⟩
 ·rw[k2];show some (vs.getD j (undef,undef)).1=_;rw[h1]
 ·rw[k5];show some (vs.getD j (undef,undef)).2=_;rw[h2]
theorem pw {z a:Nat}{w:World}{q:QP}{vl vb:Value}{us:List Value}{vss:List (List (Value×Value))}(h:lE z a w q vl vb us vss)(j:Nat)(hj:j<q.blocks.length):
  ∃gb cb ad c,vb=.slice (some ⟨gb,0,none⟩) q.blocks.length cb/\q.blocks.length<=cb/\gb<w.heap.size/\w.cell? ⟨gb,j,none⟩=some (.slice ad (q.blocks.getD j []).length c)/\us.getD j undef=.slice ad (q.blocks.getD j []).length c:=by
 obtain⟨g,cap,hv,hc,hg,aD⟩:=dK h.blocks (by omega);obtain⟨ad,c,e⟩:=yH (h.each j hj);refine⟨g,cap,ad,c,hv,hc,hg,?_,e⟩;rw[aD j (by omega),<-e,jA,jB (by rw[h.WM];exact hj)];rfl
theorem Vs {z:Nat}{w:World}{an:Option Addr}{cn:Nat}{l:ab}{vp:Value}(h:bq z w l vp (.slice an l.next.length cn))(j:Nat)(hj:j<l.next.length):
  ∃g,an=some ⟨g,0,none⟩/\l.next.length<=cn/\g<w.heap.size/\w.cell? ⟨g,j,none⟩=some (.int .i64 ((l.next.getD j 0:Nat):Int)):=by
 obtain⟨g,cap,hv,hc,hg,aD⟩:=dK h.next (by omega);simp only[Value.slice.injEq]at hv;obtain⟨rfl,-,rfl⟩:=hv;refine⟨g,rfl,hc,hg,?_⟩;rw[aD j (by omega)];simp[dH,hj]
end FlwM
namespace FlwN
open Go Go.RowKit Sq Aux PrjF PrjG PrjJ PrjK PrjL PrjM PrjO PrjP PrjQ PrjS PrjU FlwA FlwB FlwC FlwD FlwE FlwF FlwG FlwH FlwI FlwJ FlwK FlwL FlwM
attribute [local go_sem ↓] kB iL
section
variable {z x a ap mb:Nat} {w w':World} {q:QP} {vl vb:Value} {us:List Value} {vss:List (List (Value×Value))} {E:List (List Nat)} {O:Nat->Bool}
theorem kL.line (h:kL z x a ap mb w q vl vb us vss E O){b i:Nat}(hb:b<q.blocks.length)(hi:i<(q.blocks.getD b []).length){v1 v2:Value}(hv:(vss.getD b []).getD i (undef,undef)=(v1,v2)):bq z w ((q.blocks.getD b []).getD i ab.nil) v1 v2:=by
 have:=(h.prog.each b hb).each i hi;rw[hv]at this;exact this
set_option maxRecDepth 20000 in
set_option maxHeartbeats 4000000 in
theorem Cj (h:kL z x a ap mb w q vl vb us vss E O)(b:Nat)(hb:b<q.blocks.length)(hn:q.blocks.length<=4000)(ie:q.locals.length<=12)(hq:Jy q.blocks.length q)(eY:∀j,(q.blocks.getD j []).length<=4000):
  Calls Tryz.prog 189 #[.pointer (some ⟨x,0,none⟩),.int .i64 (b:Nat)] w fun e w'=>e=.returned (.tuple #[])/\kL z x a ap mb w' q vl vb us vss (gJ q E O b).2.1 (gJ q E O b).2.2/\cq ap mb w w':=by
 have Ju:b<E.length:=by rw[h.len];exact hb
 have hE:=h.row.ok Ju;have ZF:=h.row.lt;have hti:(b:Int)<(q.blocks.length:Nat):=by omega
 obtain⟨c0,c1,c2⟩:=h.facts;have has:=h.row.has b Ju;have hof:=h.row.of b Ju;have HG:Hid (gJ q E O b=fQ q ((q.blocks.getD b []).drop 0) (E.getD b [],E,O)):=rfl;have hZ:aX (w.alloc (.cells #[.int .u8 0,.int .u8 0,.int .u8 0,.int .u8 0,.int .u8 0,.int .u8 0,.int .u8 0,.int .u8 0,.int .u8 0,.int .u8 0,.int .u8 0,.int .u8 0,.int .u8 0,.int .u8 0,.int .u8 0,.int .u8 0,.int .u8 0,.int .u8 0,.int .u8 0,.int .u8 0,.int .u8 0,.int .u8 0,.int .u8 0,.int .u8 0] 209)) w.heap.size ar:=aX.new w (s:=ar) (by decide);have Rl:Below w.heap.size w (w.alloc (.cells #[.int .u8 0,.int .u8 0,.int .u8 0,.int .u8 0,.int .u8 0,.int .u8 0,.int .u8 0,.int .u8 0,.int .u8 0,.int .u8 0,.int .u8 0,.int .u8 0,.int .u8 0,.int .u8 0,.int .u8 0,.int .u8 0,.int .u8 0,.int .u8 0,.int .u8 0,.int .u8 0,.int .u8 0,.int .u8 0,.int .u8 0,.int .u8 0] 209)):=(Below.refl _ _).alloc (jC _) _;have oP:=aX.room hZ;have GJ:=pJ hE.len;have hJ:=aX.store hZ hE.len;have xP:Below w.heap.size w ((w.alloc (.cells #[.int .u8 0,.int .u8 0,.int .u8 0,.int .u8 0,.int .u8 0,.int .u8 0,.int .u8 0,.int .u8 0,.int .u8 0,.int .u8 0,.int .u8 0,.int .u8 0,.int .u8 0,.int .u8 0,.int .u8 0,.int .u8 0,.int .u8 0,.int .u8 0,.int .u8 0,.int .u8 0,.int .u8 0,.int .u8 0,.int .u8 0,.int .u8 0] 209)).setCells w.heap.size 0 (aq (E.getD b []))):=az Rl (jC _) _ _;have hW:=h.below xP;generalize E.getD b []=e0 at*;clear Rl hZ;go_enter Tryz.func189,Tryz.ntmps189
 go_upto_region 1 with fail
 generalize ((w.alloc (.cells #[.int .u8 0,.int .u8 0,.int .u8 0,.int .u8 0,.int .u8 0,.int .u8 0,.int .u8 0,.int .u8 0,.int .u8 0,.int .u8 0,.int .u8 0,.int .u8 0,.int .u8 0,.int .u8 0,.int .u8 0,.int .u8 0,.int .u8 0,.int .u8 0,.int .u8 0,.int .u8 0,.int .u8 0,.int .u8 0,.int .u8 0,.int .u8 0] 209)).setCells w.heap.size 0 (aq e0))=W at*;clear oP has hof c0 c1 c2;obtain⟨c0,c1,c2⟩:=hW.facts;obtain⟨p0,p1,-,-⟩:=lE.facts hW.prog;obtain⟨gb,cb,adk,ck,rfl,FC,Rx,aD,hus⟩:=pw hW.prog b hb;have la:=eY b;have cf:∀l∈q.blocks.getD b [],tS q.locals.length q.blocks.length l:=hq.lines _ (by simp[hb]);have Kc:cq ap mb w W:=.sg xP;have Ob:w.heap.size≠ap:=by omega
 have Zo:Hid (∀wn E' O',kL z x a ap mb wn q vl (.slice (some ⟨gb,0,none⟩) q.blocks.length cb) us vss E' O'->fi z wn (.slice adk (q.blocks.getD b []).length ck) (q.blocks.getD b []) (vss.getD b [])):=fun wn E' O' FF=>by
  have h1:=FF.prog.each b hb;rw[hus]at h1;exact h1
 have HL:Hid (∀wn E' O',kL z x a ap mb wn q vl (.slice (some ⟨gb,0,none⟩) q.blocks.length cb) us vss E' O'->∀i,i<(q.blocks.getD b []).length->∀v1 v2,(vss.getD b []).getD i (undef,undef)=(v1,v2)->bq z wn ((q.blocks.getD b []).getD i ab.nil) v1 v2):=fun wn E' O' FF i hi v1 v2 hv=>kL.line FF hb hi hv
 have HS:Hid (∀i,i<(q.blocks.getD b []).length->∀t:St,fQ q ((q.blocks.getD b []).drop i) t=fQ q ((q.blocks.getD b []).drop (i+1)) (gP ((q.blocks.getD b []).getD i ab.nil) ((q.blocks.getD b []).getD i ab.nil).next 0 (bm q ((q.blocks.getD b []).getD i ab.nil) t.1,t.2))):=fun i hi t=>En q _ i hi t
 generalize q.blocks.getD b []=aJ at*;generalize vss.getD b []=vsj at*;have hmbl:=h.sy.lt;have hmbW:=hW.sy.lt;go_wp2
 go_loopg [27] (aJ.length) (fun g v27 wr=>∃(i:Nat) (s':List Nat) (E':List (List Nat)) (O':Nat->Bool),i<=aJ.length/\g+i=aJ.length/\v27=.int .i64 i/\kL z x a ap mb wr q vl (.slice (some ⟨gb,0,none⟩) q.blocks.length cb) us vss E' O'/\aX wr w.heap.size s'/\eI s'/\cq ap mb w wr/\Hid (gJ q E O b=fQ q (aJ.drop i) (s',E',O')))
 case atStart=>exact⟨0,e0,E,O,jQ _,rfl,rfl,hW,hJ,hE,Kc,HG⟩
 case round=>
  obtain⟨i,s',E',O',hi,YO,rfl,oC,Rf,Jt,AS,HR⟩:=hrel;clear hJ HG hW xP Kc c0 c1 c2 p0 p1 aD GJ hE;by_cases Cp:i<aJ.length
  ·obtain⟨gl,apl,cp,an,cn,rfl,-,AW,Wh,k0,k1,k2,k3,k4,k5,X9⟩:=pr (Zo.out wr E' O' oC) i Cp;have hS:Hid (_=_):=HS.out i Cp (s',E',O');have Yv:Hid (∀wn E' O',kL z x a ap mb wn q vl (.slice (some ⟨gb,0,none⟩) q.blocks.length cb) us vss E' O'->bq z wn (aJ.getD i ab.nil) (.slice apl (aJ.getD i ab.nil).places.length cp) (.slice an (aJ.getD i ab.nil).next.length cn)):=fun wn E' O' FF=>HL.out wn E' O' FF i Cp _ _ X9
   have hl:=cf (aJ.getD i ab.nil) (by simp[Cp]);clear X9;generalize aJ.getD i ab.nil=l at*;have zJ:Below wr.heap.size wr (wr.alloc (.cells #[.int .i64 (l.num:Nat),.int .i64 (l.op:Nat),.slice apl l.places.length cp,.int .i64 l.number,.int .i64 l.flag,.slice an l.next.length cn] 115)):=(Below.refl _ _).alloc (jC _) _;have Xm:=oC.below zJ;have Zw:=Rf.below zJ Rf.lt;have hTL:=AS.on zJ;have my:(wr.alloc (.cells #[.int .i64 (l.num:Nat),.int .i64 (l.op:Nat),.slice apl l.places.length cp,.int .i64 l.number,.int .i64 l.flag,.slice an l.next.length cn] 115)).heap[wr.heap.size]?=some (.cells #[.int .i64 (l.num:Nat),.int .i64 (l.op:Nat),.slice apl l.places.length cp,.int .i64 l.number,.int .i64 l.flag,.slice an l.next.length cn] 115 (0,0)):=jD;have hsr:=AS.size;go_upto_region 4 with fail
   generalize (wr.alloc (.cells #[.int .i64 (l.num:Nat),.int .i64 (l.op:Nat),.slice apl l.places.length cp,.int .i64 l.number,.int .i64 l.flag,.slice an l.next.length cn] 115))=WL at*;clear k0 k1 k2 k3 k4 k5 zJ;have sb:Below WL.heap.size WL WL.drew:=below_drewN (Below.refl _ _) 1;have AU:=Xm.below sb;have GB:aX WL.drew w.heap.size s':=Zw;have AY:WL.drew.heap[wr.heap.size]?=some (.cells #[.int .i64 (l.num:Nat),.int .i64 (l.op:Nat),.slice apl l.places.length cp,.int .i64 l.number,.int .i64 l.flag,.slice an l.next.length cn] 115 (0,0)):=my;have ZB:=hTL.on sb;obtain⟨c0,c1,c2⟩:=Xm.facts;have l0:=(cell_of_heap my 0).trans (by rfl:_=some (Value.int .i64 (l.num:Nat)));have l1:=(cell_of_heap my 1).trans (by rfl:_=some (Value.int .i64 (l.op:Nat)));have l2:=(cell_of_heap my 2).trans (by rfl:_=some (Value.slice apl l.places.length cp));have l3:=(cell_of_heap my 3).trans (by rfl:_=some (Value.int .i64 l.number));have l4:=(cell_of_heap my 4).trans (by rfl:_=some (Value.int .i64 l.flag));have l5:=(cell_of_heap my 5).trans (by rfl:_=some (Value.slice an l.next.length cn));have KP:=IC q l q.blocks.length z a w.heap.size vl _ apl an cp cn s' WL.drew ⟨AU.prog.aJ,⟨_,AU.prog.locals⟩⟩ ie hl (Yv.out _ _ _ AU) GB Jt.lt;go_cut [6] (fun v6 wc=>v6=.pointer (some ⟨wr.heap.size,0,none⟩)/\aX wc w.heap.size (bm q l s')/\bw w.heap.size WL.drew wc)
   case first=>
    go_region_with (go_at_call 128;refine KP.mono ?_;rintro e w1 ⟨rfl,sI,qq⟩)
    all_goals go_wp2_with fail
    all_goals
     go_meet
     case rel=>exact⟨rfl,sI,qq⟩
   case rest=>
    obtain⟨rfl,sI,qq⟩:=hcut;have tj:=AU.other qq GB Ob;have aaa:=lt_of_heap AY;have YZ:w.heap.size<wr.heap.size:=Rf.lt;have mx:wc.heap[wr.heap.size]?=some (.cells #[.int .i64 (l.num:Nat),.int .i64 (l.op:Nat),.slice apl l.places.length cp,.int .i64 l.number,.int .i64 l.flag,.slice an l.next.length cn] 115 (0,0)):=(qq.block _ aaa (by omega)).trans AY;have Zz:cq ap mb w wc:=ZB.since qq (jC _);have U8:=gm q l Jt;have VY:Hid (gJ q E O b=fQ q (aJ.drop (i+1)) (gP l l.next 0 (bm q l s',E',O'))):=HR.out.trans hS.out;have l5:=(cell_of_heap mx 5).trans (by rfl:_=some (Value.slice an l.next.length cn));have lh:l.next.length<=3:=by
     rw[hl.ER];have key:∀op:Fin 23,((ag op.val).filter (·==98)).length<=3:=by decide
     exact key ⟨l.op,hl.op⟩
    clear KP hS HR Xm Zw hTL my sb AU GB AY ZB c0 c1 c2 l0 l1 l2 l3 l4 qq aaa Jt Rf AS oC hsr;generalize bm q l s'=s1 at*;have HN0:Hid (gP l l.next 0 (s1,E',O')=gP l (l.next.drop 0) 0 (s1,E',O')):=rfl;clear l5;have l5:=(cell_of_heap mx 5).trans (by rfl:_=some (Value.slice an l.next.length cn));clear Wh AW;generalize wr.heap.size=lb at*;go_wp2
    go_loopg [40] (l.next.length) (fun g v40 wn=>∃(j:Nat) (s2:List Nat) (E2:List (List Nat)) (O2:Nat->Bool),j<=l.next.length/\g+j=l.next.length/\v40=.int .i64 j/\kL z x a ap mb wn q vl (.slice (some ⟨gb,0,none⟩) q.blocks.length cb) us vss E2 O2/\aX wn w.heap.size s2/\eI s2/\wn.heap[lb]?=some (.cells #[.int .i64 (l.num:Nat),.int .i64 (l.op:Nat),.slice apl l.places.length cp,.int .i64 l.number,.int .i64 l.flag,.slice an l.next.length cn] 115 (0,0))/\cq ap mb w wn/\Hid (gP l l.next 0 (s1,E',O')=gP l (l.next.drop j) j (s2,E2,O2)))
    case atStart=>exact⟨0,s1,E',O',jQ _,rfl,rfl,tj,sI,U8,mx,Zz,HN0⟩
    case round=>
     obtain⟨j,s2,E2,O2,hj,hgj,rfl,TT,Wb,hsn,RC,YK,HN⟩:=hrel;clear tj sI U8 mx Zz HN0 l5;by_cases hlj:j<l.next.length
     ·obtain⟨gn,rfl,Xx,hgn,hcx⟩:=Vs (Yv.out _ _ _ TT) j hlj;have mQ:l.next.getD j 0<q.blocks.length:=hl.next _ (by rw[jA,jB hlj];exact jL hlj);have Z4:(j:Int)<(l.next.length:Nat):=by omega
      have XZ:=gv l j hsn;have HNJ:Hid (_=_):=HN.out.trans (Gx l l.next j hlj (s2,E2,O2));generalize l.next.getD j 0=nx at*;have m1:=(cell_of_heap RC 1).trans (by rfl:_=some (Value.int .i64 (l.op:Nat)));have m2:=(cell_of_heap RC 2).trans (by rfl:_=some (Value.slice apl l.places.length cp));have aac:=lt_of_heap RC;by_cases P6:l.op=20
      ·have b20:(((l.op:Nat):Int)==20)=true:=by rw[P6];rfl
       have hlen:l.places.length=1:=by rw[hl.cQ,P6];rfl
       obtain⟨gp,rfl,qm,XD,d1,d2⟩:=bo (Yv.out _ _ _ TT) hlen 0 (by omega);have hx:=(hl.places _ (cY (j:=0) (by omega))).1;have ir:Hid (cv l j s2=gS (if j=0 then 4 else 2) [l.places.getD 0 (0,0)] s2):=by unfold Hid;rw[cv,jb P6]
       rw[ir.out]at HNJ XZ;have e1:wr.cell? ⟨gp,0,none⟩=some (.int .i64 ((l.places.getD 0 (0,0)).1:Nat)):=d1;have e2:wr.cell? ⟨gp,1,none⟩=some (.int .i64 ((l.places.getD 0 (0,0)).2:Nat)):=d2;have hid:(0:Int)<(l.places.length:Nat):=by omega
       clear d1 d2;generalize l.places.getD 0 (0,0)=y at*;have hmay:(if j=0 then 4 else 2:Nat)<16:=by split<;>decide
       have KM:=y4 j wr.drew;have KMP:=y4 j (wr.alloc (.cells #[.int .i64 (y.1:Nat),.int .i64 (y.2:Nat)] 119)).drew;generalize (if j=0 then 4 else 2:Nat)=may at*;have TU:Below wr.heap.size wr (wr.alloc (.cells #[.int .i64 (y.1:Nat),.int .i64 (y.2:Nat)] 119)):=(Below.refl _ _).alloc (jC _) _;have Rk:Below wr.heap.size wr (wr.alloc (.cells #[.int .i64 (y.1:Nat),.int .i64 (y.2:Nat)] 119)).drew:=below_drewN TU 1;have hSP:aX (wr.alloc (.cells #[.int .i64 (y.1:Nat),.int .i64 (y.2:Nat)] 119)).drew w.heap.size s2:=Wb.below Rk Wb.lt;have hWP:=TT.below Rk;have hTP:=YK.on Rk;have Z8:=(Rk.block lb aac).trans RC;have gM:bP wr.heap.size (wr.alloc (.cells #[.int .i64 (y.1:Nat),.int .i64 (y.2:Nat)] 119)).drew (.slice (some ⟨wr.heap.size,0,none⟩) 1 1) [y]:=iI wr y (n:=wr.heap.size) rfl;have KP:=zX may w.heap.size _ 1 1 _ [y] s2 _ hSP gM (fun v hv=>by simp only[List.mem_singleton]at hv;subst hv;omega) hmay;have ly:(wr.alloc (.cells #[.int .i64 (y.1:Nat),.int .i64 (y.2:Nat)] 119)).heap.size=wr.heap.size+1:=by simp
       rw[hlen]at*;go_upto_region 9 with fail
       go_cut [7,8] (fun v7 v8 wc=>v7=.int .i64 (j:Nat)/\v8=.int .i64 (nx:Nat)/\aX wc w.heap.size (gS may [y] s2)/\∃wp,kL z x a ap mb wp q vl (.slice (some ⟨gb,0,none⟩) q.blocks.length cb) us vss E2 O2/\aX wp w.heap.size s2/\wp.heap[lb]?=some (.cells #[.int .i64 (l.num:Nat),.int .i64 (l.op:Nat),.slice (some ⟨gp,0,none⟩) 1 cp,.int .i64 l.number,.int .i64 l.flag,.slice (some ⟨gn,0,none⟩) l.next.length cn] 115 (0,0))/\cq ap mb w wp/\bw w.heap.size wp wc)
       case first=>
        go_region_with (first
         |(go_at_call 177;refine KP.mono ?_;rintro e w2 ⟨rfl,Jo,qs⟩)
         |(go_at_call 218;refine KM.mono ?_;rintro e w2 ⟨rfl,rfl⟩)
         |(go_at_call 218;refine KMP.mono ?_;rintro e w2 ⟨rfl,rfl⟩))
        all_goals go_wp2_with fail
        all_goals
         go_meet
         case rel=>exact⟨rfl,rfl,Jo,_,hWP,hSP,Z8,hTP,qs⟩
       case rest=>
        obtain⟨rfl,rfl,Jo,wp,hWp,hSp,Z9,hTp,qs⟩:=hcut;clear KM KMP KP hWP hSP Z8 hTP TU Rk gM e1 e2 m1 m2 ly;have AT:=hWp.other qs hSp Ob;have GM:=(qs.block lb (lt_of_heap Z9) (by omega)).trans Z9;have hT2':cq ap mb w wc:=hTp.since qs (jC _);have j1:=aX.has Jo;have j2:=aX.of Jo;have KL:=Ba AT nx mQ hn _ XZ;generalize gS may [y] s2=s3 at*;go_wp2_with (go_at_call 187;refine KL.mono ?_;rintro e w3 ⟨rfl,ZD,Kb⟩)
        go_roundg (l.next.length-(j+1))
        case measure=>omega
        case rel=>
         refine⟨j+1,s3,_,_,by omega,by omega,by go_num,ZD,⟨Jo.1,(Kb.block _ Jo.lt Ob (by omega)).trans Jo.2⟩,XZ,(Kb.block _ (lt_of_heap GM) (by omega) (by omega)).trans GM,hT2'.trans Kb,HNJ⟩
      ·have b20:(((l.op:Nat):Int)==20)=false:=by rw[jZ];omega
       have ir:Hid (cv l j s2=s2):=by unfold Hid;rw[cv,ja P6]
       rw[ir.out]at HNJ;have j1:=aX.has Wb;have j2:=aX.of Wb;have KL:=Ba TT nx mQ hn s2 hsn;go_wp2_with (go_at_call 187;refine KL.mono ?_;rintro e w3 ⟨rfl,ZD,Kb⟩)
       go_roundg (l.next.length-(j+1))
       case measure=>omega
       case rel=>
        refine⟨j+1,s2,_,_,by omega,by omega,by go_num,ZD,⟨Wb.1,(Kb.block _ Wb.lt Ob (by omega)).trans Wb.2⟩,hsn,(Kb.block _ aac (by omega) (by omega)).trans RC,YK.trans Kb,HNJ⟩
     ·go_wp2
      go_roundg (aJ.length-(i+1))
      case measure=>omega
      case rel=>
       refine⟨i+1,s2,E2,O2,by omega,by omega,by go_num,TT,Wb,hsn,YK,?_⟩;have qS:l.next.drop j=[]:=jT (by omega);unfold Hid;rw[VY.out,HN.out,qS];rfl
  ·go_wp2
   go_end0
   refine⟨rfl,?_,AS⟩;rw[HR.out,jT (by omega)];exact oC
end
end FlwN
namespace FlwO
open Go Go.RowKit Sq Aux PrjF PrjG PrjJ PrjK PrjL PrjM PrjO PrjP PrjQ PrjS PrjU FlwA FlwB FlwC FlwD FlwE FlwF FlwG FlwH FlwI FlwJ FlwK FlwL FlwM FlwN
def sO (s:List Nat):Nat->Nat
 |0=>0
 |k+1=>sO s k+(15-s.getD k 0)
def Dn:List (List Nat)->Nat
 |[]=>0
 |s::E=>sO s 24+Dn E
theorem WE (a b:Nat):a<=a|||b:=Nat.left_le_or
theorem kt {s t:List Nat}(hs:s.length=24)(k:Nat):(fD s t).getD k 0=if k<24 then s.getD k 0|||t.getD k 0 else 0:=by
 unfold fD;rw[qV,hs];by_cases h:k<24
 ·rw[jb h,jb h,jb h]
 ·rw[ja h,ja h]
theorem Dq {s t:List Nat}(hs:eI s)(ht:eI t):∀n,n<=24->sO (fD s t) n<=sO s n
 |0,_=>jC _
 |n+1,h=>by
  have:=Dq hs ht n (by omega);unfold sO;rw[kt hs.len,jb (by omega)];have:=WE (s.getD n 0) (t.getD n 0);omega
theorem Dr {s t:List Nat}(hs:eI s)(ht:eI t):∀n,n<=24->(∃k,k<n/\(fD s t).getD k 0≠s.getD k 0)->sO (fD s t) n<sO s n
 |0,_,⟨k,hk,_⟩=>by omega
 |n+1,h,⟨k,hk,ec⟩=>by
  have h1:=Dq hs ht n (by omega);unfold sO;have h2:=WE (s.getD n 0) (t.getD n 0);have h3:=WG (hs.lt n) (ht.lt n);by_cases e:k=n
  ·subst e;rw[kt hs.len,jb (by omega)]at ec⊢;omega
  ·have:=Dr hs ht n (by omega) ⟨k,by omega,ec⟩;rw[kt hs.len,jb (by omega)];omega
theorem V5 {s t:List Nat}(hs:s.length=24)(ht:t.length=24)(h:∀k,k<24->s.getD k 0=t.getD k 0):s=t:=by
 apply List.ext_getElem?
 intro k;by_cases hk:k<24
 ·have:=h k hk;rw[jA,jA,jB (by omega),jB (by omega)]at this;rw[jB (by omega),jB (by omega)];simpa using this
 ·rw[jG (by omega),jG (by omega)]
theorem Oz {s t:List Nat}(hs:s.length=24):(fD s t).length=24:=by unfold fD;rw[tu];exact hs
theorem zP {s t:List Nat}(hs:eI s)(h:¬fD s t=s):∃k,k<24/\(fD s t).getD k 0≠s.getD k 0:=by
 refine Classical.byContradiction fun hc=>h (V5 (Oz hs.len) hs.len fun k hk=> ?_)
 exact Classical.byContradiction fun hn=>hc ⟨k,hk,hn⟩
theorem Dp:∀(E:List (List Nat)) (i:Nat) (t:List Nat),i<E.length->Dn (E.set i t)+sO (E.getD i []) 24=Dn E+sO t 24
 |[],_,_,h=>by simp at h
 |s::E,0,t,_=>by simp[Dn];omega
 |s::E,i+1,t,h=>by
  have:=Dp E i t (by simpa using h);simp only[List.set_cons_succ,Dn,List.getD_cons_succ];omega
def Fy (E:List (List Nat)):Prop:=∀s∈E,eI s
theorem Fy.at {E:List (List Nat)}(h:Fy E){i:Nat}(hi:i<E.length):eI (E.getD i []):=h _ (MR hi)
theorem G7 {s t:List Nat}(hs:eI s)(ht:eI t):eI (fD s t):=Dl hs ht 24
theorem x5 (E:List (List Nat))(n:Nat)(s:List Nat):(eP E n s).length=E.length:=by unfold eP;split<;>simp
theorem A9 {E:List (List Nat)}(hE:Fy E){n:Nat}(hn:n<E.length){s:List Nat}(hs:eI s):Fy (eP E n s):=by
 unfold eP;split
 ·exact hE
 ·intro t ht;rcases List.mem_or_eq_of_mem_set ht with h|h
  ·exact hE t h
  ·rw[h];exact G7 (hE.at hn) hs
def zp (E:List (List Nat))(O:Nat->Bool)(N:Nat):Nat:=2*Dn E+gV O N
theorem OI {E:List (List Nat)}{O:Nat->Bool}{N n:Nat}(hE:Fy E)(hN:E.length=N)(hn:n<N){s:List Nat}(hs:eI s):zp (eP E n s) (gY E O n s) N<=zp E O N:=by
 unfold eP gY zp;split
 ·exact jC _
 ·rename_i hj;have h0:=hE.at (i:=n) (by omega);have h1:=Dp E n (fD (E.getD n []) s) (by omega);have h2:=Dr h0 hs 24 (jC _) (zP h0 hj);have h3:gV (cC O n true) N<=gV O N+1:=by
   cases hO:O n with
   |true=>rw[yg hO];omega
   |false=>rw[vh hO N hn];omega
  omega
structure Ui (N:Nat)(t:St):Prop where
 s:eI t.1
 e:Fy t.2.1
 len:t.2.1.length=N
theorem Dc {N:Nat}(l:ab):∀(ns:List Nat) (i:Nat) (t:St),(∀n∈ns,n<N)->Ui N t->Ui N (gP l ns i t)/\zp (gP l ns i t).2.1 (gP l ns i t).2.2 N<=zp t.2.1 t.2.2 N
 |[],_,t,_,h=>⟨h,jC _⟩
 |n::ns,i,t,hn,h=>by
  have hs:=gv l i h.s;have hnn:=hn n (jM ..);have:=Dc l ns (i+1) (cv l i t.1,eP t.2.1 n (cv l i t.1),gY t.2.1 t.2.2 n (cv l i t.1)) (fun m hm=>hn m (jN _ hm))
   ⟨hs,A9 h.e (by rw[h.len];exact hnn) hs,by rw[<-h.len];exact x5 _ _ _⟩
  exact⟨this.1,jS this.2 (OI h.e h.len hnn hs)⟩
theorem AQ {N:Nat}(q:QP):∀(ls:List ab) (t:St),(∀l∈ls,∀n∈l.next,n<N)->Ui N t->Ui N (fQ q ls t)/\zp (fQ q ls t).2.1 (fQ q ls t).2.2 N<=zp t.2.1 t.2.2 N
 |[],t,_,h=>⟨h,jC _⟩
 |l::ls,t,hn,h=>by
  have h1:=Dc l l.next 0 (bm q l t.1,t.2) (hn l (jM ..)) ⟨gm q l h.s,h.e,h.len⟩;have h2:=AQ q ls _ (fun m hm=>hn m (jN _ hm)) h1.1;exact⟨h2.1,jS h2.2 h1.2⟩
theorem p8:eI aV:=⟨by decide,fun k=>by
 unfold aV;rw[jA,jO];split<;>simp⟩
section
variable {z x a ap mb:Nat} {w w':World} {q:QP} {vl vb:Value} {us:List Value} {vss:List (List (Value×Value))} {E:List (List Nat)} {O:Nat->Bool}
theorem An (hq:Jy q.blocks.length q){b:Nat}(hb:b<q.blocks.length):∀l∈q.blocks.getD b [],∀n∈l.next,n<q.blocks.length:=fun l hl=>
 (hq.lines (q.blocks.getD b []) (by simp[hb]) l hl).next
set_option maxRecDepth 20000 in
set_option maxHeartbeats 2000000 in
theorem J4 (h:kL z x a ap mb w q vl vb us vss E O)(h0:0<q.blocks.length)(hn:q.blocks.length<=4000)(ie:q.locals.length<=12)(hq:Jy q.blocks.length q)(eY:∀j,(q.blocks.getD j []).length<=4000)
  (I:List (List Nat)->(Nat->Bool)->Prop) (Rd:I (eP E 0 aV) (gY E O 0 aV))
  (hI:∀E O b,Fy E->E.length=q.blocks.length->b<q.blocks.length->O b=true->I E O->I (gJ q E (cC O b false) b).2.1 (gJ q E (cC O b false) b).2.2):
  Calls Tryz.prog 144 #[.pointer (some ⟨x,0,none⟩)] w fun e w'=>e=.returned (.tuple #[])/\∃E' O',kL z x a ap mb w' q vl vb us vss E' O'/\I E' O'/\(∀b,O' b=false)/\cq ap mb w w':=by
 have KS:=PK w;have Yb:=h.lt;have KL:=fun w1 (hb:Below w.heap.size w w1)=>Ba (h.below hb) 0 h0 hn aV p8
 have HI0:Hid (I (eP E 0 aV) (gY E O 0 aV)):=Rd;have HI:Hid (∀E O b,Fy E->E.length=q.blocks.length->b<q.blocks.length->O b=true->I E O->I (gJ q E (cC O b false) b).2.1 (gJ q E (cC O b false) b).2.2):=hI;clear Rd hI;go_enter Tryz.func144,Tryz.ntmps144
 go_wp2_with (first
  |(go_at_call 188;refine KS.mono ?_;rintro e w1 ⟨rfl,aw⟩)
  |(go_at_call 187;refine(KL w1 aw).mono ?_;rintro e w2 ⟨rfl,AT,qs⟩))
 go_loopg [5] (zp (eP E 0 aV) (gY E O 0 aV) q.blocks.length) (fun g _ wr=>∃(E':List (List Nat)) (O':Nat->Bool),g=zp E' O' q.blocks.length/\kL z x a ap mb wr q vl vb us vss E' O'/\Hid (I E' O')/\cq ap mb w wr)
 case atStart=>exact⟨_,_,rfl,AT,HI0,(cq.sg aw).trans qs⟩
 case round=>
  obtain⟨E',O',hgm,oC,HIr,AS⟩:=hrel;clear KS KL AT aw qs;obtain⟨c0,c1,c2⟩:=oC.facts;by_cases hc:gV O' q.blocks.length=0
  ·have ZL:¬(0:Int)<(gV O' q.blocks.length:Nat):=by omega
   have hnone:∀b,O' b=false:=fun b=>by
    by_cases hb:b<q.blocks.length
    ·exact xF _ hc b hb
    ·cases hO:O' b with
     |false=>rfl
     |true=>exact absurd (oC.sy.bound hO) hb
   go_wp2_with (at_len;refine ij _ rfl _ rfl rfl oC.sy ?_)
   go_end0
   exact⟨rfl,E',O',oC,HIr.out,hnone,AS⟩
  ·have ZL:(0:Int)<(gV O' q.blocks.length:Nat):=by omega
   have KT:=sW oC hn;have KG:=fun w1 b (hb:b<q.blocks.length) O1 (tj:kL z x a ap mb w1 q vl vb us vss E' O1)=>Cj tj b hb hn ie hq eY
   have aL:∀b,Mt O' q.blocks.length b->b<q.blocks.length:=fun b hl=>by
    refine Nat.lt_of_le_of_ne hl.le (fun e=>hc (km _ fun c AW=>hl.none c (by omega)))
   go_wp2_with (first
    |(at_len;refine ij _ rfl _ rfl rfl oC.sy ?_)
    |(go_at_call 146;refine KT.mono ?_;rintro e w1 ⟨b,rfl,aw,tj,qq⟩)
    |(go_at_call 189;refine(KG w1 b (aL b aw) _ tj).mono ?_;rintro e w2 ⟨rfl,AT,qs⟩))
   go_roundg (zp (gJ q E' (cC O' b false) b).2.1 (gJ q E' (cC O' b false) b).2.2 q.blocks.length)
   case measure=>
    have ql:=aL b aw;have h1:=(AQ q (q.blocks.getD b []) (E'.getD b [],E',cC O' b false) (An hq ql) ⟨oC.row.ok (by rw[oC.len];exact ql),oC.row.1,oC.len⟩).2;have h2:=Av (aw.sy ql) q.blocks.length ql;unfold zp at h1 hgm;unfold gJ zp;simp only at h1;omega
   case rel=>
    have ql:=aL b aw;exact⟨_,_,rfl,AT,HI.out E' O' b oC.row.1 oC.len ql (aw.sy ql) HIr.out,(AS.trans qq).trans qs⟩
end
end FlwO
end Go.Proofs.YtmlgajhhnojdjaaGreatDoor

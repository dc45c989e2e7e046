import Derived.Test.YtmlgajhhnojdjaaGreatDoorRAJ
namespace Go.Proofs.YtmlgajhhnojdjaaGreatDoor
namespace FlwE
open Go Go.RowKit Sq Aux PrjF PrjG PrjJ PrjK PrjL PrjM PrjN PrjO PrjP PrjR PrjS PrjT FlwA FlwB FlwC FlwD
structure PQ (w:World)(a:Nat)(q:QP)(v u:Value):Prop where
 aJ:w.heap[a]?=some (.cells #[v,u] 110 (0,0))
 loc:mc w v q.locals
theorem BB {w w':World}{z b:Nat}{e:TypeId}{sz n:Nat}{v:Value}{xs:List Value}(h:w.ownsRow z e sz v n xs)(hT:bw b w w'){cs:Array Value}{t:TypeId}{f:Nat×Nat}(hb:w.heap[b]?=some (.cells cs t f))(he:e≠t):w'.ownsRow z e sz v n xs:=
 gi h fun g hg=>hT.block g (h.lt g hg).2 fun x=>by subst x;exact au h hb he hg
section
variable {w w':World} {a b:Nat} {q:QP} {v u:Value} {s:List Nat}
theorem PQ.below (h:PQ w a q v u)(hb:Below w.heap.size w w'):PQ w' a q v u:=⟨by rw[hb.block a (lt_of_heap h.aJ)];exact h.aJ,h.loc.below hb⟩
theorem PQ.qb (h:PQ w a q v u)(hT:bw b w w')(hs:aX w b s):PQ w' a q v u:=by
 refine⟨?_,?_⟩
 ·rw[hT.block a (lt_of_heap h.aJ) (fun x=>by
   have h1:=h.aJ;rw[x,hs.2]at h1;simp only[Option.some.injEq,Obj.cells.injEq]at h1;exact absurd h1.2.1 (by decide))]
  exact h.aJ
 ·obtain⟨z,hz⟩:=h.loc;exact⟨z,BB hz hT hs.2 (by decide)⟩
theorem OM {z:Nat}{l:ab}{vp vn:Value}(h:bq z w l vp vn)(hT:bw b w w')(hs:aX w b s):bq z w' l vp vn:=
 ⟨BB h.places hT hs.2 (by decide),BB h.next hT hs.2 (by decide)⟩
end
def cG (q:QP)(l:ab)(s:List Nat):List Nat:=
 if l.op=12 then dC (QP.ae q (l.places.getD 1 (0,0))) s else if l.op=14 then dC [l.places.getD 1 (0,0)] s else s
theorem bo {z:Nat}{w:World}{ap:Option Addr}{cp:Nat}{l:ab}{vn:Value}(h:bq z w l (.slice ap l.places.length cp) vn){n:Nat}(hn:l.places.length=n)(j:Nat)(hj:j<n):
  ∃g,ap=some ⟨g,0,none⟩/\n<=cp/\g<w.heap.size/\w.cell? ⟨g,j*2,none⟩=some (.int .i64 ((l.places.getD j (0,0)).1:Nat))/\w.cell? ⟨g,j*2+1,none⟩=some (.int .i64 ((l.places.getD j (0,0)).2:Nat)):=by
 obtain⟨g,e,-,hc,hg,c1,c2⟩:=db h.places j (by omega);exact⟨g,e,by omega,hg,c1,c2⟩
set_option maxRecDepth 20000 in
set_option maxHeartbeats 1000000 in
theorem PU (q:QP)(l:ab)(nb z a b:Nat)(v u:Value)(ap an:Option Addr)(cp cn:Nat)(s:List Nat)(w:World)(hp:PQ w a q v u)(ie:q.locals.length<=12)(hl:tS q.locals.length nb l)
  (hA:bq z w l (.slice ap l.places.length cp) (.slice an l.next.length cn)) (hs:aX w b s):
  Calls Tryz.prog 125 #[.pointer (some ⟨b,0,none⟩),.pointer (some ⟨a,0,none⟩),.agg #[.int .i64 (l.num:Nat),.int .i64 (l.op:Nat),.slice ap l.places.length cp,.int .i64 l.number,.int .i64 l.flag,.slice an l.next.length cn]] w fun e w'=>e=.returned (.tuple #[])/\aX w' b (cG q l s)/\bw b w w':=by
 have aY:Below w.heap.size w (w.alloc (.cells #[.int .i64 (l.num:Nat),.int .i64 (l.op:Nat),.slice ap l.places.length cp,.int .i64 l.number,.int .i64 l.flag,.slice an l.next.length cn] 115)):=(Below.refl _ _).alloc (jC _) _;by_cases cg:l.op=12
 ·have hlen:l.places.length=2:=by rw[hl.cQ,cg];rfl
  obtain⟨g,rfl,qm,hg,c1,c2⟩:=bo hA hlen 1 (by omega);have d1:=(aY.cell (p:=⟨g,2,none⟩) hg).trans c1;have d2:=(aY.cell (p:=⟨g,3,none⟩) hg).trans c2;have hx:=(hl.places (l.places.getD 1 (0,0)) (by simp[hlen])).1;have hr:cG q l s=dC (QP.ae q (l.places.getD 1 (0,0))) s:=by rw[cG,jb cg]
  have b12:(((l.op:Nat):Int)==12)=true:=by rw[cg];rfl
  have hpA:=hp.below aY;have KH:=ef q (l.places.getD 1 (0,0)) v u a _ hpA.aJ hpA.loc hx;rw[hr];clear hr c1 c2;generalize l.places.getD 1 (0,0)=x at*;have KT:=fun(W:World) (g c:Nat) (hb:Below w.heap.size w W) (z:Nat) (hP:bP z W (.slice (some ⟨g,0,none⟩) (QP.ae q x).length c) (QP.ae q x))=>BR b z _ c _ (QP.ae q x) s W (hs.below hb hs.lt) hP (cD (by omega))
  have ax:Hid (l.op=12):=cg;rw[hlen]at aY d1 d2 KH⊢;clear cg;go_enter Tryz.func125,Tryz.ntmps125
  go_wp2_with (first
   |(go_at_call 102;refine KH.mono ?_;rintro e w2 ⟨g2,c2,rfl,zk,bU⟩;have mn:=aY.trans (bU.mono aY.size))
   |(go_at_call 174;refine(KT w2 g2 c2 mn _ zk).mono ?_;rintro e w3 ⟨rfl,Wa,Kb⟩))
  go_end0
  exact⟨rfl,Wa,(bw.of mn).trans Kb⟩
 ·have b12:(((l.op:Nat):Int)==12)=false:=by rw[jZ];omega
  by_cases B6:l.op=14
  ·have hlen:l.places.length=2:=by rw[hl.cQ,B6];rfl
   obtain⟨g,rfl,qm,hg,c1,c2⟩:=bo hA hlen 1 (by omega);have d1:=(aY.cell (p:=⟨g,2,none⟩) hg).trans c1;have d2:=(aY.cell (p:=⟨g,3,none⟩) hg).trans c2;have hx:=(hl.places (l.places.getD 1 (0,0)) (by simp[hlen])).1;have hr:cG q l s=dC [l.places.getD 1 (0,0)] s:=by rw[cG,ja cg,jb B6]
   have b14:(((l.op:Nat):Int)==14)=true:=by rw[B6];rfl
   rw[hr];clear hr c1 c2;generalize l.places.getD 1 (0,0)=x at*;rw[hlen]at aY d1 d2⊢;have Wc:=aY.alloc aY.size (.cells #[.int .i64 (x.1:Nat),.int .i64 (x.2:Nat)] 119);have KT:=BR b _ 1 1 _ [x] s _ (hs.below Wc hs.lt) (iI (w.alloc (.cells #[.int .i64 (l.num:Nat),.int .i64 (l.op:Nat),.slice (some ⟨g,0,none⟩) 2 cp,.int .i64 l.number,.int .i64 l.flag,.slice an l.next.length cn] 115)) x (n:=w.heap.size+1) (by simp)) (fun y hy=>by simp only[List.mem_singleton]at hy;subst hy;omega);clear cg B6;go_enter Tryz.func125,Tryz.ntmps125
   go_wp2_with (go_at_call 174;refine KT.mono ?_;rintro e w3 ⟨rfl,Wa,Kb⟩)
   go_end0
   exact⟨rfl,Wa,(bw.of Wc).trans Kb⟩
  ·have b14:(((l.op:Nat):Int)==14)=false:=by rw[jZ];omega
   have hr:cG q l s=s:=by rw[cG,ja cg,ja B6]
   rw[hr];clear hr cg B6;go_enter Tryz.func125,Tryz.ntmps125
   go_wp2
   go_end0
   exact⟨rfl,hs.below aY hs.lt,bw.of aY⟩
end FlwE
namespace FlwF
open Go Go.RowKit Sq Aux PrjJ PrjK FlwB
def yz (w:World)(b o:Nat):Prop:=∃s:List Nat,s.length=24/\w.rangeAt b o (aq s)
def s7 (w:World)(b o:Nat):Prop:=w.there b o 24
def Fe (w:World)(b o:Nat):Array Value:=((List.range 24).map fun j=>(w.cell? ⟨b,o+j,none⟩).getD undef).toArray
def Uf (xs:Array Value):Prop:=∃s:List Nat,s.length=24/\xs=(aq s).toArray
theorem dy (s:List Nat):(aq s).length=s.length:=by simp[aq]
theorem Ff {w:World}{b o:Nat}{s:List Nat}(hl:s.length=24)(h:w.rangeAt b o (aq s)):Fe w b o=(aq s).toArray:=by
 unfold Fe;congr 1;apply List.ext_getElem?
 intro j;rw[jJ];by_cases hj:j<24
 ·rw[List.getElem?_range hj];have Jr:j<(aq s).length:=by rw[dy];omega
  have:=h j (aq s)[j] (jB Jr);rw[Option.map_some,this,jB Jr];rfl
 ·rw[jG (by simp;omega),jG (by rw[dy];omega)];rfl
theorem tp {s:List Nat}(h:s.length=24):(Tryz.prog.info? 209).map (·.size)=some (aq s).length:=by
 rw[dy,h];kernel_rfl
theorem Ys (s:List Nat):∀u∈aq s,u.oneCell'=true:=by
 intro u hu;simp only[aq,List.mem_map]at hu;obtain⟨n,-,rfl⟩:=hu;rfl
theorem Ln (w:World)(b o:Nat)(h:yz w b o):(loadVar 209 ⟨b,o,none⟩).run Tryz.prog w=.ok (.agg (Fe w b o)) w:=by
 obtain⟨s,hs,hw⟩:=h;rw[Ff hs hw];exact run_loadVar_mid w b o 209 (aq s) _ hw Tryz.underlying209 rfl (tp hs)
theorem I6 (w:World)(b o:Nat)(xs:Array Value)(h:s7 w b o)(hx:Uf xs):(storeVar 209 ⟨b,o,none⟩ (.agg xs)).run Tryz.prog w=.ok () (w.setCells b o xs.toList):=by
 obtain⟨t,ht,rfl⟩:=hx;refine run_storeVar_mid w b o 209 (aq t).toArray ?_ ?_ (all_oneCell_toArray (Ys t))
 ·have:=h;unfold s7 at this;rw[List.size_toArray,dy,ht];exact this
 ·have:=tp ht;rw[List.size_toArray];exact this
def pR:Value->Nat
 | .pointer (some ad)=>ad.off
 |_=>0
def V1 (w:World)(v:Value):Prop:=∃b o,v=.pointer (some ⟨b,o,none⟩)/\yz w b o
def Mu (w:World)(v:Value):Prop:=∃b o,v=.pointer (some ⟨b,o,none⟩)/\s7 w b o
def Qd (v:Value):Prop:=∃xs,v=.agg xs/\Uf xs
def LN:Value->Nat
 | .pointer (some ad)=>ad.block
 |_=>0
def V2:Value->Array Value
 | .agg xs=>xs
 |_=> #[]
@[simp] theorem mL (ad : Addr) : pR (.pointer (some ad)) = ad.off := rfl
@[simp] theorem BH (ad : Addr) : LN (.pointer (some ad)) = ad.block := rfl
@[simp] theorem Nz (xs : Array Value) : V2 (.agg xs) = xs := rfl
@[simp] theorem Y4 (w : World) (b o : Nat) : V1 w (.pointer (some ⟨b, o, none⟩)) = yz w b o := propext ⟨fun ⟨_, _, e, h⟩ => by cases e; exact h, fun h => ⟨b, o, rfl, h⟩⟩
@[simp] theorem WH (w : World) (b o : Nat) : Mu w (.pointer (some ⟨b, o, none⟩)) = s7 w b o := propext ⟨fun ⟨_, _, e, h⟩ => by cases e; exact h, fun h => ⟨b, o, rfl, h⟩⟩
@[simp] theorem YA (xs : Array Value) : Qd (.agg xs) = Uf xs := by simp [Qd]
section
variable (d:Option Tmp) (x y:Operand) (t:TypeId) (ps:String) (af:Array Edge) (g:Option (Nat×Bool)) (a:Act) (w:World) (K:Act->World->Prop) (Q:Exit->Act->World->Prop)
theorem kB (h:V1 w (a.eval x)):Oper.wp Tryz.prog {dst:=d,op:=Op.load 209 x,type:=t,pos:=ps,after:=af,guard:=g} a w K Q=K (a.put d (.agg (Fe w (LN (a.eval x)) (pR (a.eval x))))) w:=by
 obtain⟨b,o,hb,hh⟩:=h;have:=Ln w b o hh;unfold Oper.wp execOp;simp only[hb,Instr.loadAt,Instr.sureAddr,Sem.run_bind,Sem.run_pure,Result.andThen_ok,this,BH,mL];rfl
theorem iL (h:Mu w (a.eval x))(h':Qd (a.eval y)):Oper.wp Tryz.prog {dst:=d,op:=Op.store 209 x y,type:=t,pos:=ps,after:=af,guard:=g} a w K Q=K (a.put d undef) (w.setCells (LN (a.eval x)) (pR (a.eval x)) (V2 (a.eval y)).toList):=by
 obtain⟨b,o,hb,hh⟩:=h;obtain⟨xs,hy,hx⟩:=h';have:=I6 w b o xs hh hx;unfold Oper.wp execOp;simp only[hb,hy,Instr.storeAt,Instr.sureAddr,Sem.run_bind,Sem.run_pure,Result.andThen_ok,this,BH,mL,Nz];rfl
end
theorem aX.range {w:World}{b:Nat}{s:List Nat}(h:aX w b s):w.rangeAt b 0 (aq s):=fun j v hv=>by
 rw[Nat.zero_add,cell_of_heap h.2];simpa using hv
theorem aX.has {w:World}{b:Nat}{s:List Nat}(h:aX w b s):yz w b 0:=⟨s,h.1,aX.range h⟩
theorem aX.room {w:World}{b:Nat}{s:List Nat}(h:aX w b s):s7 w b 0:=fun j hj=>by
 rw[Nat.zero_add,aX.cell h j hj,aX.frozen h];exact⟨rfl,rfl⟩
theorem aX.of {w:World}{b:Nat}{s:List Nat}(h:aX w b s):Fe w b 0=(aq s).toArray:=Ff h.1 (aX.range h)
theorem aX.new (w:World){s:List Nat}(h:s.length=24):aX (w.alloc (.cells (aq s).toArray 209)) w.heap.size s:=⟨h,jD⟩
theorem aX.store {w:World}{b:Nat}{s t:List Nat}(h:aX w b s)(ht:t.length=24):aX (w.setCells b 0 (aq t)) b t:=by
 obtain⟨cs',h1,h2,h3⟩:=eL b (aq t) 0 w _ _ _ h.2;refine⟨ht,?_⟩;rw[h1];congr 2;apply Array.ext_getElem?
 intro j;rw[h3];have l1:(aq s).length=24:=by rw[dy];exact h.1
 have l2:(aq t).length=24:=by rw[dy];exact ht
 by_cases hj:j<24
 ·rw[jb (by simp[l1,l2,hj])];simp
 ·rw[ja (by simp[l2];omega)];simp[l1,l2,Nat.le_of_not_lt hj]
theorem sY {w w':World}{b:Nat}(_h:bw b w w')(_o:Nat):∀(vs:List Value) (o:Nat) (w':World),bw b w w'->bw b w (w'.setCells b o vs)
 |[],_,_,h=>h
 |v::r,o,w',h=>by rw[World.setCells];exact sY h o r (o+1) _ (h.setCell o v)
def ar:List Nat:=List.replicate 24 0
theorem pJ {s:List Nat}(h:s.length=24):Uf (aq s).toArray:=⟨s,h,rfl⟩
end FlwF
namespace FlwG
open Go Go.RowKit Sq Aux PrjF PrjG PrjJ PrjK PrjL PrjM PrjN PrjO PrjP PrjR PrjS PrjT FlwA FlwB FlwC FlwD FlwE FlwF
attribute [local go_sem ↓] kB iL
def oQ (op:Nat):Bool:=op==2||op==3||op==4||op==5||op==6||op==7||op==10||op==9||op==14
def bm (q:QP)(l:ab)(s:List Nat):List Nat:=
 if oQ l.op=true then gS 2 [l.places.getD 0 (0,0)] (cG q l s)
 else if l.op=12 then gS (dn q (l.places.getD 1 (0,0)) s) (QP.ae q (l.places.getD 0 (0,0))) (cG q l s)
 else if l.op=13 then gS 4 [l.places.getD 0 (0,0)] (cG q l s)
 else if l.op=15 then dC (QP.ae q (l.places.getD 0 (0,0))) (cG q l s)
 else cG q l s
theorem cY {ps:List (Nat×Nat)}{j:Nat}(h:j<ps.length):ps.getD j (0,0)∈ps:=by
 rw[jA,jB h];exact jL h
theorem ry {nl nb:Nat}{l:ab}(h:tS nl nb l)(ho:oQ l.op=true\/l.op=12\/l.op=13\/l.op=15):1<=l.places.length:=by
 rw[h.cQ];have key:∀op:Fin 23,(oQ op.val=true\/op.val=12\/op.val=13\/op.val=15)->1<=((ag op.val).filter sM).length:=by decide
 exact key ⟨l.op,h.op⟩ ho
set_option maxRecDepth 20000 in
set_option maxHeartbeats 2000000 in
theorem IC (q:QP)(l:ab)(nb z a b:Nat)(v u:Value)(ap an:Option Addr)(cp cn:Nat)(s:List Nat)(w:World)(hp:PQ w a q v u)(ie:q.locals.length<=12)(hl:tS q.locals.length nb l)
  (hA:bq z w l (.slice ap l.places.length cp) (.slice an l.next.length cn)) (hs:aX w b s) (hv:∀k,s.getD k 0<16):
  Calls Tryz.prog 128 #[.pointer (some ⟨b,0,none⟩),.pointer (some ⟨a,0,none⟩),.agg #[.int .i64 (l.num:Nat),.int .i64 (l.op:Nat),.slice ap l.places.length cp,.int .i64 l.number,.int .i64 l.flag,.slice an l.next.length cn]] w fun e w'=>e=.returned (.tuple #[])/\aX w' b (bm q l s)/\bw b w w':=by
 have aY:Below w.heap.size w (w.alloc (.cells #[.int .i64 (l.num:Nat),.int .i64 (l.op:Nat),.slice ap l.places.length cp,.int .i64 l.number,.int .i64 l.flag,.slice an l.next.length cn] 115)):=(Below.refl _ _).alloc (jC _) _;have qu:=hs.below aY hs.lt;have Xo:=aX.has qu;have U3:=aX.of qu;have U9:(w.alloc (.cells #[.int .i64 (l.num:Nat),.int .i64 (l.op:Nat),.slice ap l.places.length cp,.int .i64 l.number,.int .i64 l.flag,.slice an l.next.length cn] 115)).heap.size=w.heap.size+1:=by simp
 have hZ:aX ((w.alloc (.cells #[.int .i64 (l.num:Nat),.int .i64 (l.op:Nat),.slice ap l.places.length cp,.int .i64 l.number,.int .i64 l.flag,.slice an l.next.length cn] 115)).alloc (.cells #[.int .u8 0,.int .u8 0,.int .u8 0,.int .u8 0,.int .u8 0,.int .u8 0,.int .u8 0,.int .u8 0,.int .u8 0,.int .u8 0,.int .u8 0,.int .u8 0,.int .u8 0,.int .u8 0,.int .u8 0,.int .u8 0,.int .u8 0,.int .u8 0,.int .u8 0,.int .u8 0,.int .u8 0,.int .u8 0,.int .u8 0,.int .u8 0] 209)) (w.heap.size+1) ar:=by
  rw[<-U9];exact aX.new (w.alloc (.cells #[.int .i64 (l.num:Nat),.int .i64 (l.op:Nat),.slice ap l.places.length cp,.int .i64 l.number,.int .i64 l.flag,.slice an l.next.length cn] 115)) (s:=ar) (by decide)
 have oP:=aX.room hZ;have GJ:=pJ hs.1;have AT:=aX.store hZ hs.1;have Wc:Below w.heap.size w ((w.alloc (.cells #[.int .i64 (l.num:Nat),.int .i64 (l.op:Nat),.slice ap l.places.length cp,.int .i64 l.number,.int .i64 l.flag,.slice an l.next.length cn] 115)).alloc (.cells #[.int .u8 0,.int .u8 0,.int .u8 0,.int .u8 0,.int .u8 0,.int .u8 0,.int .u8 0,.int .u8 0,.int .u8 0,.int .u8 0,.int .u8 0,.int .u8 0,.int .u8 0,.int .u8 0,.int .u8 0,.int .u8 0,.int .u8 0,.int .u8 0,.int .u8 0,.int .u8 0,.int .u8 0,.int .u8 0,.int .u8 0,.int .u8 0] 209)):=aY.alloc aY.size _;have xP:Below w.heap.size w (((w.alloc (.cells #[.int .i64 (l.num:Nat),.int .i64 (l.op:Nat),.slice ap l.places.length cp,.int .i64 l.number,.int .i64 l.flag,.slice an l.next.length cn] 115)).alloc (.cells #[.int .u8 0,.int .u8 0,.int .u8 0,.int .u8 0,.int .u8 0,.int .u8 0,.int .u8 0,.int .u8 0,.int .u8 0,.int .u8 0,.int .u8 0,.int .u8 0,.int .u8 0,.int .u8 0,.int .u8 0,.int .u8 0,.int .u8 0,.int .u8 0,.int .u8 0,.int .u8 0,.int .u8 0,.int .u8 0,.int .u8 0,.int .u8 0] 209)).setCells (w.heap.size+1) 0 (aq s)):=az Wc (by omega) _ _;have Ev:(((w.alloc (.cells #[.int .i64 (l.num:Nat),.int .i64 (l.op:Nat),.slice ap l.places.length cp,.int .i64 l.number,.int .i64 l.flag,.slice an l.next.length cn] 115)).alloc (.cells #[.int .u8 0,.int .u8 0,.int .u8 0,.int .u8 0,.int .u8 0,.int .u8 0,.int .u8 0,.int .u8 0,.int .u8 0,.int .u8 0,.int .u8 0,.int .u8 0,.int .u8 0,.int .u8 0,.int .u8 0,.int .u8 0,.int .u8 0,.int .u8 0,.int .u8 0,.int .u8 0,.int .u8 0,.int .u8 0,.int .u8 0,.int .u8 0] 209)).setCells (w.heap.size+1) 0 (aq s)).heap[w.heap.size]?=some (.cells #[.int .i64 (l.num:Nat),.int .i64 (l.op:Nat),.slice ap l.places.length cp,.int .i64 l.number,.int .i64 l.flag,.slice an l.next.length cn] 115 (0,0)):=by
  rw[de _ _ _ _ _ (by omega),((Below.refl (w.heap.size+1) (w.alloc (.cells #[.int .i64 (l.num:Nat),.int .i64 (l.op:Nat),.slice ap l.places.length cp,.int .i64 l.number,.int .i64 l.flag,.slice an l.next.length cn] 115))).alloc (by omega) _).block w.heap.size (by omega)];exact jD
 clear U9;go_enter Tryz.func128,Tryz.ntmps128
 go_upto_region 2 with fail
 generalize (((w.alloc (.cells #[.int .i64 (l.num:Nat),.int .i64 (l.op:Nat),.slice ap l.places.length cp,.int .i64 l.number,.int .i64 l.flag,.slice an l.next.length cn] 115)).alloc (.cells #[.int .u8 0,.int .u8 0,.int .u8 0,.int .u8 0,.int .u8 0,.int .u8 0,.int .u8 0,.int .u8 0,.int .u8 0,.int .u8 0,.int .u8 0,.int .u8 0,.int .u8 0,.int .u8 0,.int .u8 0,.int .u8 0,.int .u8 0,.int .u8 0,.int .u8 0,.int .u8 0,.int .u8 0,.int .u8 0,.int .u8 0,.int .u8 0] 209)).setCells (w.heap.size+1) 0 (aq s))=W at*;have hblt:=hs.lt;have l0:=(cell_of_heap Ev 0).trans (by rfl:_=some (Value.int .i64 (l.num:Nat)));have l1:=(cell_of_heap Ev 1).trans (by rfl:_=some (Value.int .i64 (l.op:Nat)));have l2:=(cell_of_heap Ev 2).trans (by rfl:_=some (Value.slice ap l.places.length cp));have l3:=(cell_of_heap Ev 3).trans (by rfl:_=some (Value.int .i64 l.number));have l4:=(cell_of_heap Ev 4).trans (by rfl:_=some (Value.int .i64 l.flag));have l5:=(cell_of_heap Ev 5).trans (by rfl:_=some (Value.slice an l.next.length cn));have hpW:=hp.below xP;have hAW:=hA.below xP;have hsW:=hs.below xP hblt;have KT:=PU q l nb z a b v u ap an cp cn s W hpW ie hl hAW hsW;clear Xo U3 oP GJ hZ;go_upto_region 5 with(go_at_call 125;refine KT.mono ?_;rintro e w1 ⟨rfl,sI,qq⟩;have mx:w1.heap[w.heap.size]?=_:=(qq.block w.heap.size (lt_of_heap Ev) (by omega)).trans Ev;have m1:=(cell_of_heap mx 1).trans (by rfl:_=some (Value.int .i64 (l.op:Nat)));have m2:=(cell_of_heap mx 2).trans (by rfl:_=some (Value.slice ap l.places.length cp)))
 have tj:aX w1 (w.heap.size+1) s:=⟨AT.1,(qq.block (w.heap.size+1) AT.lt (by omega)).trans AT.2⟩;have B9:=hpW.qb qq hsW;have Zn:=OM hAW qq hsW;have Kc:bw b w w1:=(bw.of xP).trans qq;clear l0 l1 l2 l3 l4 l5 KT AT Ev;by_cases hput:oQ l.op=true
 ·have Wm:=ry hl (.inl hput);obtain⟨g,rfl,qm,hg,c1,c2⟩:=bo Zn rfl 0 (by omega);have hx:=(hl.places _ (cY (j:=0) (by omega))).1;have hr:Hid (bm q l s=gS 2 [l.places.getD 0 (0,0)] (cG q l s)):=by unfold Hid;rw[bm,jb hput]
  have d1:w1.cell? ⟨g,0,none⟩=some (.int .i64 ((l.places.getD 0 (0,0)).1:Nat)):=c1;have d2:w1.cell? ⟨g,1,none⟩=some (.int .i64 ((l.places.getD 0 (0,0)).2:Nat)):=c2;have hid:(0:Int)<(l.places.length:Nat):=by omega
  clear c1 c2;generalize l.places.getD 0 (0,0)=x at*;have TU:Below w1.heap.size w1 (w1.alloc (.cells #[.int .i64 (x.1:Nat),.int .i64 (x.2:Nat)] 119)):=(Below.refl _ _).alloc (jC _) _;have KP:=zX 2 b _ 1 1 _ [x] (cG q l s) _ (sI.below TU sI.lt) (iI w1 x (n:=w1.heap.size) rfl) (fun y hy=>by simp only[List.mem_singleton]at hy;subst hy;omega) (by decide);generalize cG q l s=t at*;have Ew:l.op=2\/l.op=3\/l.op=4\/l.op=5\/l.op=6\/l.op=7\/l.op=10\/l.op=9\/l.op=14:=by
   simp only[oQ,Bool.or_eq_true,beq_iff_eq]at hput;omega
  clear hput;rcases Ew with h|h|h|h|h|h|h|h|h
  all_goals
   rw[h];have HO:Hid (_=_):=h;clear h;go_wp2_with (go_at_call 177;refine KP.mono ?_;rintro e w2 ⟨rfl,Jo,qs⟩)
   go_end0
   exact⟨rfl,by rw[hr.out];exact Jo,(Kc.on TU).trans qs⟩
 ·by_cases Eo:l.op=13
  ·have Wm:=ry hl (.inr (.inr (.inl Eo)));obtain⟨g,rfl,qm,hg,c1,c2⟩:=bo Zn rfl 0 (by omega);have hx:=(hl.places _ (cY (j:=0) (by omega))).1;have hr:Hid (bm q l s=gS 4 [l.places.getD 0 (0,0)] (cG q l s)):=by unfold Hid;rw[bm,ja hput,ja (by omega),jb Eo]
   have d1:w1.cell? ⟨g,0,none⟩=some (.int .i64 ((l.places.getD 0 (0,0)).1:Nat)):=c1;have d2:w1.cell? ⟨g,1,none⟩=some (.int .i64 ((l.places.getD 0 (0,0)).2:Nat)):=c2;have hid:(0:Int)<(l.places.length:Nat):=by omega
   clear c1 c2;generalize l.places.getD 0 (0,0)=x at*;have TU:Below w1.heap.size w1 (w1.alloc (.cells #[.int .i64 (x.1:Nat),.int .i64 (x.2:Nat)] 119)):=(Below.refl _ _).alloc (jC _) _;have KP:=zX 4 b _ 1 1 _ [x] (cG q l s) _ (sI.below TU sI.lt) (iI w1 x (n:=w1.heap.size) rfl) (fun y hy=>by simp only[List.mem_singleton]at hy;subst hy;omega) (by decide);generalize cG q l s=t at*;clear hput;rw[Eo];have HO:Hid (_=_):=Eo;clear Eo;go_wp2_with (go_at_call 177;refine KP.mono ?_;rintro e w2 ⟨rfl,Jo,qs⟩)
   go_end0
   exact⟨rfl,by rw[hr.out];exact Jo,(Kc.on TU).trans qs⟩
  ·by_cases sv:l.op=15
   ·have Wm:=ry hl (.inr (.inr (.inr sv)));obtain⟨g,rfl,qm,hg,c1,c2⟩:=bo Zn rfl 0 (by omega);have hx:=(hl.places _ (cY (j:=0) (by omega))).1;have hr:Hid (bm q l s=dC (QP.ae q (l.places.getD 0 (0,0))) (cG q l s)):=by unfold Hid;rw[bm,ja hput,ja (by omega),ja Eo,jb sv]
    have d1:w1.cell? ⟨g,0,none⟩=some (.int .i64 ((l.places.getD 0 (0,0)).1:Nat)):=c1;have d2:w1.cell? ⟨g,1,none⟩=some (.int .i64 ((l.places.getD 0 (0,0)).2:Nat)):=c2;have hid:(0:Int)<(l.places.length:Nat):=by omega
    clear c1 c2;generalize l.places.getD 0 (0,0)=x at*;have KH:=ef q x v u a w1 B9.aJ B9.loc hx;generalize cG q l s=t at*;have KT:=fun(W':World) (g c:Nat) (hb:Below w1.heap.size w1 W') (z:Nat) (hP:bP z W' (.slice (some ⟨g,0,none⟩) (QP.ae q x).length c) (QP.ae q x))=>BR b z _ c _ (QP.ae q x) t W' (sI.below hb sI.lt) hP (cD (by omega))
    clear hput Eo;rw[sv];have HO:Hid (_=_):=sv;clear sv;go_wp2_with (first
     |(go_at_call 102;refine KH.mono ?_;rintro e w2 ⟨g2,c2,rfl,zk,bU⟩)
     |(go_at_call 174;refine(KT w2 g2 c2 bU _ zk).mono ?_;rintro e w3 ⟨rfl,Wa,Kb⟩))
    go_end0
    exact⟨rfl,by rw[hr.out];exact Wa,(Kc.on bU).trans Kb⟩
   ·by_cases cg:l.op=12
    ·have hlen:l.places.length=2:=by rw[hl.cQ,cg];rfl
     obtain⟨g,rfl,qm,hg,c1,c2⟩:=bo Zn hlen 0 (by omega);obtain⟨g',e,-,-,c3,c4⟩:=bo Zn hlen 1 (by omega);simp only[Option.some.injEq,Addr.mk.injEq,and_true]at e;subst e;have hx:=(hl.places _ (cY (j:=0) (by omega))).1;have hy:=(hl.places _ (cY (j:=1) (by omega))).1;have hr:Hid (bm q l s=gS (dn q (l.places.getD 1 (0,0)) s) (QP.ae q (l.places.getD 0 (0,0))) (cG q l s)):=by unfold Hid;rw[bm,ja hput,jb cg]
     have HC:Hid (∀w',Below w1.heap.size w1 w'->w'.cell? ⟨g,0,none⟩=some (.int .i64 ((l.places.getD 0 (0,0)).1:Nat))/\w'.cell? ⟨g,1,none⟩=some (.int .i64 ((l.places.getD 0 (0,0)).2:Nat))/\w'.cell? ⟨g,2,none⟩=some (.int .i64 ((l.places.getD 1 (0,0)).1:Nat))/\w'.cell? ⟨g,3,none⟩=some (.int .i64 ((l.places.getD 1 (0,0)).2:Nat))):=fun w' hb=>
      ⟨(hb.cell (p:=⟨g,0,none⟩) hg).trans c1,(hb.cell (p:=⟨g,1,none⟩) hg).trans c2,(hb.cell (p:=⟨g,2,none⟩) hg).trans c3,(hb.cell (p:=⟨g,3,none⟩) hg).trans c4⟩
     clear c1 c2 c3 c4;have hmv:dn q (l.places.getD 1 (0,0)) s<16:=by
      unfold dn;split
      ·exact hv _
      ·decide
     generalize l.places.getD 0 (0,0)=x at*;generalize l.places.getD 1 (0,0)=y at*;have sb:Below w1.heap.size w1 w1.drew:=⟨rfl,rfl,rfl,jC _,fun _ _=>rfl⟩;have KH:=fun w' (hb:Below w1.heap.size w1 w')=>ef q x v u a w' (B9.below hb).aJ (B9.below hb).loc hx
     have KM:=fun w' (hb:Below w1.heap.size w1 w')=>O3 q (w.heap.size+1) y s v u a w' (B9.below hb).aJ (B9.below hb).loc (by omega) hy (tj.below hb tj.lt) (by omega)
     obtain⟨mv,hmvv⟩:∃mv,mv=dn q y s:=⟨_,rfl⟩;rw[<-hmvv]at KM hmv hr;generalize cG q l s=t at*;have KP:=fun(W':World) (g c:Nat) (hb:Below w1.heap.size w1 W') (z:Nat) (hP:bP z W' (.slice (some ⟨g,0,none⟩) (QP.ae q x).length c) (QP.ae q x))=>zX mv b z _ c _ (QP.ae q x) t W' (sI.below hb sI.lt) hP (cD (by omega)) hmv
     obtain⟨d0,d1,d2,d3⟩:=HC.out w1 (Below.refl _ _);have KMd:=KM w1.drew sb;have KHd:=KH w1.drew sb;clear hput Eo sv hmvv;rw[cg];have HO:Hid (_=_):=cg;rw[hlen];clear cg;go_upto_region 16 with fail
     go_region_with (first
      |(go_at_call 177;refine(KP whA gA cA Rj _ yR).mono ?_;rintro e w4 ⟨rfl,hS4,ZA⟩;have hTT:=(Kc.on Rj).trans ZA)
      |(go_at_call 177;refine(KP wmB gB cB Xr _ (ay hPB hmB)).mono ?_;rintro e w4 ⟨rfl,hS4,ZA⟩;have hTT:=(Kc.on Xr).trans ZA)
      |(go_at_call 102;refine(KH wmA UJ).mono ?_;rintro e whA ⟨gA,cA,rfl,yR,hhA⟩;have Rj:=UJ.trans (hhA.mono UJ.size);obtain⟨d0A2,d1A2,d2A2,d3A2⟩:=HC.out whA Rj)
      |(go_at_call 178;refine(KM whB UK).mono ?_;rintro e wmB ⟨rfl,hmB⟩;have Xr:=UK.trans (hmB.mono UK.size);obtain⟨d0B2,d1B2,d2B2,d3B2⟩:=HC.out wmB Xr)
      |(go_at_call 178;refine KMd.mono ?_;rintro e wmA ⟨rfl,hmA⟩;have UJ:Below w1.heap.size w1 wmA:=⟨hmA.os,hmA.tape,hmA.output,hmA.size,hmA.block⟩;obtain⟨d0A,d1A,d2A,d3A⟩:=HC.out wmA UJ)
      |(go_at_call 102;refine KHd.mono ?_;rintro e whB ⟨gB,cB,rfl,hPB,ZZ⟩;have UK:Below w1.heap.size w1 whB:=⟨ZZ.os,ZZ.tape,ZZ.output,ZZ.size,ZZ.block⟩;obtain⟨d0B,d1B,d2B,d3B⟩:=HC.out whB UK))
     all_goals go_wp2_with fail
     all_goals
      go_end0
      exact⟨rfl,by rw[hr.out];exact hS4,hTT⟩
    ·have hr:Hid (bm q l s=cG q l s):=by unfold Hid;rw[bm,ja hput,ja cg,ja Eo,ja sv]
     have Ew:l.op=8\/l.op=11\/l.op=16\/l.op=17\/l.op=18\/l.op=19\/l.op=20\/l.op=21\/l.op=22:=by
      have h1:=hl.op;have h2:=hl.op2;simp only[oQ,Bool.or_eq_true,beq_iff_eq]at hput;omega
     generalize cG q l s=t at*;clear hput cg Eo sv;rcases Ew with h|h|h|h|h|h|h|h|h
     all_goals
      rw[h];have HO:Hid (_=_):=h;clear h;go_wp2
      go_end0
      exact⟨rfl,by rw[hr.out];exact sI,Kc⟩
end FlwG
end Go.Proofs.YtmlgajhhnojdjaaGreatDoor

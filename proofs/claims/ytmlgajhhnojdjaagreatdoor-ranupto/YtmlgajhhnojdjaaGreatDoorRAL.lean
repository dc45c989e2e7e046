import Derived.Test.YtmlgajhhnojdjaaGreatDoorRAK
namespace Go.Proofs.YtmlgajhhnojdjaaGreatDoor
namespace Sq
open Go Aux RefS RefT
def eV (s:B)(m:Bool):B->B×Bool
 |[]=>(s,m)
 |c::r=>eV (fT s c) (m|| !(fT s c==s)) r
def iV (o:WS)(i:Nat)(s:WS)(m:Bool):WS×Bool:=(WS.set s i (eV (s.at i) m (o.at i)).1,(eV (s.at i) m (o.at i)).2)
def eW (o:WS):Nat->Nat->WS->Bool->WS×Bool
 |0,_,s,m=>(s,m)
 |n+1,i,s,m=>eW o n (i+1) (iV o i s m).1 (iV o i s m).2
def WS.add (s o:WS):WS×Bool:=if s.known then eW o 24 0 s false else({o with known:=true},true)
theorem FP (o:WS)(i:Nat)(s:WS)(m:Bool)(hi:i<24):eW o (24-i) i s m=eW o (24-(i+1)) (i+1) (iV o i s m).1 (iV o i s m).2:=by
 rw[show 24-i=(24-(i+1))+1 by omega,eW]
theorem JA (s:B)(m:Bool)(o:B)(k:Nat)(hk:k<o.length):eV s m (o.drop k)=eV (fT s o[k]) (m|| !(fT s o[k]==s)) (o.drop (k+1)):=by
 rw[jE hk,eV]
theorem Fm (s:B)(c:UInt8):(fT s c).length<=s.length+1:=by
 unfold fT;split<;>simp
theorem D0:∀(o s:B) (m:Bool),(eV s m o).1.length<=s.length+o.length
 |[],s,m=>by simp[eV]
 |c::r,s,m=>by
  have h1:=D0 r (fT s c) (m|| !(fT s c==s));have h2:=Fm s c;rw[eV];simp;omega
theorem WS.D2 (s:WS)(k j:Nat)(c:B)(hk:k<s.ak.length):(WS.set s k c).at j=if j=k then c else s.at j:=by
 unfold WS.at WS.set;simp only[List.getD_eq_getElem?_getD,List.getElem?_set];by_cases h:k=j
 ·subst h;simp[hk]
 ·rw[ja h,ja (fun e=>h e.symm)]
theorem WS.set_set (s:WS)(k:Nat)(a b:B):WS.set (WS.set s k a) k b=WS.set s k b:=by
 simp[WS.set]
theorem WS.IY (s:WS)(k:Nat)(h:k<s.ak.length):WS.set s k (s.at k)=s:=by
 unfold WS.set WS.at;cases s with
 |mk kn sp=>
  simp only[WS.mk.injEq,true_and]at h⊢;apply List.ext_getElem?
  intro j;rw[jd];by_cases hj:k=j
  ·subst hj;simp[h]
  ·simp[hj]
def eE:B:=[45,110,119,104]
structure dT (s:B):Prop where
 once:s.Nodup
 qi:∀c∈s,c∈eE
theorem Sa:∀(l m:B),l.Nodup->(∀x∈l,x∈m)->l.length<=m.length
 |[],m,_,_=>by simp
 |a::l,m,hn,h=>by
  obtain⟨h1,h2⟩:=List.nodup_cons.mp hn;have h3:=Sa l (m.erase a) h2 (fun x hx=>(List.mem_erase_of_ne (by rintro rfl;exact h1 hx)).mpr (h x (by simp[hx])));have h4:=List.length_erase_of_mem (h a (by simp));have h5:=List.length_pos_of_mem (h a (by simp));simp;omega
theorem dT.length {s:B}(h:dT s):s.length<=4:=Sa s eE h.once h.qi
structure WS.dT (s:WS):Prop where
 len:s.ak.length=24
 fe:∀k,Sq.dT (s.at k)
theorem WS.dT.ok {s:WS}(h:s.dT):s.Ok:=⟨h.len,fun k=>by have:=(h.fe k).length;omega⟩
theorem Eh:dT []:=⟨List.nodup_nil,by simp⟩
theorem vu (c:UInt8)(h:c∈eE):dT [c]:=⟨by simp,by simpa using h⟩
theorem WS.dT.set {s:WS}(h:s.dT)(k:Nat){c:B}(hc:Sq.dT c):(WS.set s k c).dT:=by
 refine⟨by simp[WS.set,h.len],fun j=> ?_⟩;by_cases hk:k<s.ak.length
 ·rw[WS.D2 s k j c hk];split
  ·exact hc
  ·exact h.fe j
 ·have:WS.set s k c=s:=by
   unfold WS.set;rw[List.set_eq_of_length_le (by omega)]
  rw[this];exact h.fe j
theorem tL:aI.dT:=⟨rfl,fun k=>by
 have:aI.at k=[]:=by
  unfold WS.at aI;simp only[List.getD_eq_getElem?_getD,List.getElem?_replicate];split<;>simp
 rw[this];exact Eh⟩
theorem Du (c:B)(hc:dT c):∀(m k:Nat) (s:WS),s.dT->(oh c m k s).dT
 |0,_,_,h=>h
 |m+1,k,_,h=>Du c hc m (k+1) _ (h.set k hc)
theorem RP.kD (p:RP){s:WS}(hs:s.dT)(l:B){c:B}(hc:dT c):(p.now s l c).dT:=Du c hc _ _ _ hs
theorem Hx (l:B):dT (left l):=by
 unfold left;split
 ·exact vu _ (by simp[eE])
 ·exact vu _ (by simp[eE])
theorem MK:dT [119]:=vu _ (by simp[eE])
theorem QZ:dT [110]:=vu _ (by simp[eE])
theorem RP.yo (p:RP){s:WS}(hs:s.dT)(ws:List B):(RP.cK p ws s).1.dT:=by
 unfold RP.cK RP.taken;have h1:=p.kD (p.kD hs (word ws 2) (Hx (word ws 2))) (word ws 1) MK;split
 ·exact p.kD h1 _ (hs.fe _)
 ·exact h1
theorem RP.kV (p:RP){s:WS}(hs:s.dT)(ws:List B):(p.step ws s).1.dT:=by
 unfold RP.step;have hw:=p.kD hs (word ws 1) MK;have hn:=p.kD hs (word ws 1) QZ;have hl:=p.kD hs (word ws 1) (Hx (word ws 1));have ht:=p.yo hs ws
 repeat' split
 all_goals assumption
theorem DU {s:B}{c:UInt8}(hs:dT s)(hc:c∈eE):dT (fT s c):=by
 unfold fT;split
 ·exact hs
 ·rename_i hn;refine⟨List.nodup_append.mpr ⟨hs.once,by simp,fun a ha b hb=> ?_⟩,fun x hx=> ?_⟩
  ·rw[jI]at hb;rintro rfl;exact hn (hb▸ha)
  ·rcases List.mem_append.mp hx with hx|hx
   ·exact hs.qi x hx
   ·rw[jI]at hx;rw[hx];exact hc
theorem CO:∀(o s:B) (m:Bool),dT s->(∀c∈o,c∈eE)->dT (eV s m o).1
 |[],s,m,h,_=>h
 |c::r,s,m,h,ho=>by
  rw[eV];exact CO r _ _ (DU h (ho c (by simp))) (fun x hx=>ho x (by simp[hx]))
theorem Nt {s o:WS}(hs:s.dT)(ho:o.dT)(i:Nat)(m:Bool):(iV o i s m).1.dT:=hs.set i (CO _ _ _ (hs.fe i) (ho.fe i).qi)
theorem Ah {o:WS}(ho:o.dT):∀(n i:Nat) (s:WS) (m:Bool),s.dT->(eW o n i s m).1.dT
 |0,_,_,_,h=>h
 |n+1,i,_,m,h=>Ah ho n (i+1) _ _ (Nt h ho i m)
theorem WS.zA {s o:WS}(hs:s.dT)(ho:o.dT):(s.add o).1.dT:=by
 unfold WS.add;split
 ·exact Ah ho _ _ _ _ hs
 ·exact⟨ho.len,ho.fe⟩
def WS.count (s:WS):Nat:=(s.ak.map List.length).sum+if s.known then 1 else 0
theorem Nn:∀(l:List B) (k:Nat) (c:B),k<l.length->((l.set k c).map List.length).sum+(l.getD k []).length=(l.map List.length).sum+c.length
 |[],k,_,h=>by simp at h
 |x::l,0,c,_=>by simp;omega
 |x::l,k+1,c,h=>by
  have:=Nn l k c (by simpa using h);simp at this⊢;omega
theorem yB:∀(o s:B) (m:Bool),s.length<=(eV s m o).1.length/\((eV s m o).2=true->m=true\/s.length<(eV s m o).1.length)/\(m=true->(eV s m o).2=true)
 |[],s,m=>by simp[eV]
 |c::r,s,m=>by
  rw[eV];obtain⟨h1,h2,h3⟩:=yB r (fT s c) (m|| !(fT s c==s));have hw:fT s c=s\/(fT s c).length=s.length+1:=by unfold fT;split<;>simp
  refine⟨?_,fun h=> ?_,fun h=>h3 (by simp[h])⟩
  ·rcases hw with hw|hw
   ·rw[hw]at h1⊢;exact h1
   ·omega
  ·rcases hw with hw|hw
   ·rw[hw]at h2 h⊢;have:=h2 h;simpa using this
   ·right;omega
theorem FL {s:WS}(hs:s.ak.length=24)(o:WS)(i:Nat)(hi:i<24)(m:Bool):s.count<=(iV o i s m).1.count/\((iV o i s m).2=true->m=true\/s.count<(iV o i s m).1.count):=by
 obtain⟨h1,h2,-⟩:=yB (o.at i) (s.at i) m;have hc:=Nn s.ak i (eV (s.at i) m (o.at i)).1 (by omega);unfold WS.at at h1 h2 hc;unfold WS.count iV WS.set WS.at;simp only;refine⟨by omega,fun h=> ?_⟩;rcases h2 h with h|h
 ·exact .inl h
 ·right;omega
theorem tU (o:WS):∀(n i:Nat) (s:WS) (m:Bool),s.ak.length=24->i+n<=24->s.count<=(eW o n i s m).1.count/\((eW o n i s m).2=true->m=true\/s.count<(eW o n i s m).1.count)
 |0,_,s,m,_,_=>⟨jC _,fun h=> .inl h⟩
 |n+1,i,s,m,hs,hi=>by
  obtain⟨a1,a2⟩:=FL hs o i (by omega) m;obtain⟨b1,b2⟩:=tU o n (i+1) (iV o i s m).1 (iV o i s m).2 (by simp[iV,WS.set,hs]) (by omega);rw[eW];refine⟨by omega,fun h=> ?_⟩;rcases b2 h with h|h
  ·rcases a2 h with h|h
   ·exact .inl h
   ·right;omega
  ·right;omega
theorem WS.count_le {s:WS}(h:s.dT):s.count<=97:=by
 have:∀l:List B,(∀x∈l,x.length<=4)->(l.map List.length).sum<=4*l.length:=by
  intro l;induction l with
  |nil=>simp
  |cons x l ih=>intro hl;have h1:=ih (fun y hy=>hl y (by simp[hy]));have h2:=hl x (by simp);simp;omega
 have h4:=this s.ak (fun x hx=>by
  obtain⟨k,hk,rfl⟩:=List.getElem_of_mem hx;have:=(h.fe k).length;simpa [WS.at,hk]using this)
 unfold WS.count;rw[h.len]at h4;split<;>omega
end Sq
namespace Aux
open Go Go.RowKit Sq RefR
def lM (o:Oper):Operand:=match o.op with| .load _ x=>x|_=> .tmp 0
def iH (o:Oper):Bool:=match o.op with| .load t _=>t==155|_=>false
def lS (o:Oper):Operand:=match o.op with| .store _ x _=>x|_=> .tmp 0
def iJ (o:Oper):Operand:=match o.op with| .store _ _ y=>y|_=> .tmp 0
def gx (o:Oper):Bool:=match o.op with| .store t _ _=>t==155|_=>false
section
variable (o:Oper) (a:Act) (w:World) (K:Act->World->Prop) (Q:Exit->Act->World->Prop)
theorem qe (hl:iH o=true)(h:rP w (a.eval (lM o))):Oper.wp Tryz.prog o a w K Q=K (a.put o.dst (.agg (B1 w (jy (a.eval (lM o)))))) w:=by
 obtain⟨d,op,t,ps,af,g⟩:=o;unfold iH at hl;split at hl
 ·rename_i t' x heq;simp only at heq;subst heq;obtain rfl:t'=155:=by simpa using hl
  exact dd d x t ps af g a w K Q h
 ·cases hl
theorem oA (hl:gx o=true)(h:rP w (a.eval (lS o)))(h':rK (a.eval (iJ o))):Oper.wp Tryz.prog o a w K Q=K (a.put o.dst undef) (w.setCells (jy (a.eval (lS o))) 0 (qC (a.eval (iJ o))).toList):=by
 obtain⟨d,op,t,ps,af,g⟩:=o;unfold gx at hl;split at hl
 ·rename_i t' x y heq;simp only at heq;subst heq;obtain rfl:t'=155:=by simpa using hl
  exact cH d x y t ps af g a w K Q h h'
 ·cases hl
end
end Aux
namespace RefZc
open Go.RowKit Sq RefA RefO RefR Aux
attribute [local go_sem ↓] dd cH
theorem aB.Ti {w:World}{b:Nat}{s:WS}(h:aB w b s)(k:Bool):aB (w.setCell ⟨b,0,none⟩ (.bool k)) b {s with known:=k}:=by
 unfold aB;rw[Go.Proofs.YtmlgajhhnojdjaaGreatDoor.Aux.heap_setCell_same h];congr 2
structure Ns (w wr:World)(s o:WS):Prop where
 one:aB wr w.heap.size s
 other:aB wr (w.heap.size+1) o
 zero:aB wr (w.heap.size+2) aI
 br:Below w.heap.size w wr
theorem Ns.below {w wr w':World}{s o:WS}(h:Ns w wr s o)(hb:Below wr.heap.size wr w'):Ns w w' s o:=
 ⟨h.one.below hb,h.other.below hb,h.zero.below hb,h.br.trans (hb.mono h.br.size)⟩
theorem DS (w:World)(s o:WS):Ns w (((w.alloc (.cells s.cells.toArray 155)).alloc (.cells o.cells.toArray 155)).alloc (.cells aI.cells.toArray 155)) s o:=by
 have h1:=aB.new w s;have h2:=aB.new (w.alloc (.cells s.cells.toArray 155)) o;have h3:=aB.new ((w.alloc (.cells s.cells.toArray 155)).alloc (.cells o.cells.toArray 155)) aI;refine⟨(h1.below (bG _ _)).below (bG _ _),?_,?_,((bG w _).alloc (by simp) _).alloc (by simp;omega) _⟩
 ·have:=h2.below (bG _ (.cells aI.cells.toArray 155));simpa using this
 ·simpa using h3
theorem Ns.set {w wr:World}{s o:WS}(h:Ns w wr s o)(k:Nat)(c:B):Ns w (wr.setCell ⟨w.heap.size,1+k,none⟩ (.string (bs c))) (WS.set s k c) o:=
 ⟨h.one.set k c,h.other.setOther (by simp) _,h.zero.setOther (by simp) _,h.br.setCell (jC _) _⟩
theorem CR {tmps:Array Value}{w wr:World}{t:WS}{b:Bool}{R:Ending->World->Prop}(hK:aB wr (w.heap.size+2) aI)(ht:t.Ok)(h6:tmps.getD 4 undef=.pointer (some ⟨w.heap.size+2,0,none⟩))(h7:tmps.getD 5 undef=.bool b)
  (h:R (.returned (.tuple #[t.val,.bool b])) (wr.setCells (w.heap.size+2) 0 t.cells)):bodyPost Tryz.prog Tryz.f86 R Exit.ret {tmps:=tmps,defers:=[]} (wr.setCells (w.heap.size+2) 0 t.cells):=by
 refine bodyPost_ret (eG Tryz.results86 tmps _ _ (w.heap.size+2) t.cells _ h6 (hK.store bF ht).range Tryz.underlying155 rfl (eD ht)) rfl ?_;rw[h7];exact h
set_option maxRecDepth 20000 in
set_option maxHeartbeats 4000000 in
theorem Nx (s o:WS)(w:World)(ho:o.Ok)(hk:s.known=false):
  Calls Tryz.prog 86 #[s.val,o.val] w fun e w'=>e=.returned (.tuple #[(s.add o).1.val,.bool (s.add o).2])/\Below w.heap.size w w':=by
 have HR:Hid (s.add o=({o with known:=true},true)):=by unfold Hid WS.add;rw[hk];rfl
 have ho':WS.Ok {o with known:=true}:=⟨ho.len,ho.fe⟩;rw[HR.out];unfold WS.val;go_enter Tryz.func86,Tryz.ntmps86
 go_upto_region 0 with fail
 go_cut [2,3,4] (fun v2 v3 v4 wc=>Ns w wc s o/\v2=.pointer (some ⟨w.heap.size,0,none⟩)/\v3=.pointer (some ⟨w.heap.size+1,0,none⟩)/\v4=.pointer (some ⟨w.heap.size+2,0,none⟩))
 case first=>
  go_wp2
  go_meet
  case rel=>exact⟨DS w s o,rfl,rfl,rfl⟩
 case rest=>
  obtain⟨hT,rfl,rfl,rfl⟩:=hcut;have zL:=hT.one.known;rw[hk]at zL;have hfr:=hT.other.frozen 0;have kq:=hT.other.known;have hsk:=aB.Ti hT.other true;have hz:=hT.zero.setOther (a:=⟨w.heap.size+1,0,none⟩) (by simp) (.bool true);have hh:aU (wc.setCell ⟨w.heap.size+1,0,none⟩ (.bool true)) (w.heap.size+1):=⟨_,ho',hsk⟩;have hhz:aU (wc.setCell ⟨w.heap.size+1,0,none⟩ (.bool true)) (w.heap.size+2):=⟨_,bF,hz⟩;have hv:=bu hsk;have xT:dh (WS.cells {o with known:=true}).toArray:=⟨_,ho',rfl⟩;go_wp2
  all_goals exact CR hz ho' rfl rfl ⟨rfl,az (hT.br.setCell (by simp) _) (by omega) _ _⟩
set_option maxRecDepth 20000 in
set_option maxHeartbeats 4000000 in
theorem Ny (s o:WS)(w:World)(hs:s.dT)(ho:o.dT)(hk:s.known=true):
  Calls Tryz.prog 86 #[s.val,o.val] w fun e w'=>e=.returned (.tuple #[(s.add o).1.val,.bool (s.add o).2])/\Below w.heap.size w w':=by
 have HR:Hid (s.add o=eW o (24-0) 0 s false):=by unfold Hid WS.add;rw[hk];rfl
 have HO:Hid (o.dT):=ho;have HF:Hid (s.dT):=hs;have HU:Hid ((s.add o).1.dT):=WS.zA hs ho;unfold WS.val;clear ho hs;go_enter Tryz.func86,Tryz.ntmps86
 go_upto_region 0 with fail
 go_cut [2,3,4] (fun v2 v3 v4 wc=>Ns w wc s o/\v2=.pointer (some ⟨w.heap.size,0,none⟩)/\v3=.pointer (some ⟨w.heap.size+1,0,none⟩)/\v4=.pointer (some ⟨w.heap.size+2,0,none⟩))
 case first=>
  go_wp2
  go_meet
  case rel=>exact⟨DS w s o,rfl,rfl,rfl⟩
 case rest=>
  obtain⟨hT,rfl,rfl,rfl⟩:=hcut;have zL:=hT.one.known;rw[hk]at zL;go_wp2
  clear zL;go_loopg [6,7] (24) (fun g vm vi wr=>∃(i:Nat) (si:WS) (m:Bool),i<=24/\g+i=24/\vi=.int .i64 i/\vm=.bool m/\Ns w wr si o/\Hid (si.dT)/\Hid (s.add o=eW o (24-i) i si m))
  case atStart=>exact⟨0,s,false,by omega,rfl,rfl,rfl,hT,HF,HR⟩
  case round=>
   clear hT HR;obtain⟨i,si,m,hi,YO,rfl,rfl,hT,Y7,HI⟩:=hrel;by_cases aL:i<24
   ·have HS:Hid (_=_):=FP o i si m aL;have XE:(i:Int)<24:=by omega
    obtain⟨L,hL⟩:∃L,L=(o.at i).length:=⟨_,rfl⟩;have HLn:Hid (L=(o.at i).length):=hL;have hL4:L<=4:=by rw[hL];exact(HO.out.fe i).length
    clear hL;go_wp2
    go_loopg [6,8,9] (L) (fun g vm vk v9 wr=>∃(k:Nat) (x:B) (n:Bool),k<=L/\g+k=L/\vk=.int .i64 k/\vm=.bool n/\Ns w wr (WS.set si i x) o/\Hid (dT x)/\Hid (eV (si.at i) m (o.at i)=eV x n ((o.at i).drop k)))
    case atStart=>exact⟨0,si.at i,m,by omega,by omega,rfl,rfl,by rw[WS.IY _ _ (by rw[Y7.out.len];omega)];exact hT,Y7.out.fe i,rfl⟩
    case round=>
     clear hT;obtain⟨k,x,n,GK,GI,rfl,rfl,hT,HX,HJ⟩:=hrel;have hfi:=Y7.out.set i HX.out;have Er:(WS.set si i x).at i=x:=by rw[WS.D2 _ _ _ _ (by rw[Y7.out.len];omega),jb rfl]
     have kq:=hT.one.cell hfi.ok i aL;rw[Er]at kq;have oa:=hT.other.cell HO.out.ok i aL;by_cases hkL:k<L
     ·have tN:k<(o.at i).length:=by rw[<-HLn.out];exact hkL
      have hkb:k<(bs (o.at i)).size:=by simpa using tN
      have ZC:Ns w wr.drew (WS.set si i x) o:=hT.below ((Below.refl _ _).drew);have HA:=TL (bs x) (bs (o.at i))[k] wr.drew (by have:=HX.out.length;simp;omega);rw[aE]at HA;have HL:Hid (dT (fT x (o.at i)[k])):=DU HX.out ((HO.out.fe i).qi _ (jL _));have HJ2:Hid (_=_):=JA x n (o.at i) k tN;go_wp2_with fail
      go_region_law (go_simp;go_at_call 142;refine HA.mono ?_;rintro e w1 ⟨rfl,aw⟩)
      all_goals
       have qq:=ZC.below aw;have vB:=qq.one.cell hfi.ok i aL;rw[Er]at vB;have hfr:=qq.one.frozen (1+i);have HT1:Hid (Ns w w1 (WS.set si i x) o):=qq;clear qq ZC kq oa hT;cases n
       all_goals
        go_wp2
        go_roundg (L-(k+1))
        case rel=>
         refine⟨k+1,_,_,by omega,by omega,by go_num,rfl,by have:=HT1.out.set i (fT x (o.at i)[k]);rw[WS.set_set]at this;exact this,HL,?_⟩;unfold Hid;rw[HJ.out,HJ2.out];rfl
        case measure=>omega
     ·have tN:¬(k:Int)<(o.at i).length:=by rw[<-HLn.out];omega
      have HE:Hid (iV o i si m=(WS.set si i x,n)):=by
       unfold Hid iV;rw[HJ.out,jT (by rw[<-HLn.out];omega)];rfl
      go_wp2
      go_roundg (24-(i+1))
      case rel=>
       refine⟨i+1,_,_,by omega,by omega,by go_num,rfl,hT,hfi,?_⟩;unfold Hid;rw[HI.out,HS.out,HE.out]
      case measure=>omega
   ·have HE:Hid (s.add o=(si,m)):=by
     unfold Hid;rw[HI.out,show 24-i=0 by omega];rfl
    have RQ:=Y7.out.ok;have hh:aU wr w.heap.size:=⟨_,RQ,hT.one⟩;have hhz:aU wr (w.heap.size+2):=⟨_,bF,hT.zero⟩;have hv:=bu hT.one;have xT:dh si.cells.toArray:=⟨_,RQ,rfl⟩;go_wp2
    all_goals exact CR hT.zero RQ rfl rfl ⟨by rw[HE.out];rfl,az hT.br (by omega) _ _⟩
theorem Nw (s o:WS)(w:World)(hs:s.dT)(ho:o.dT):
  Calls Tryz.prog 86 #[s.val,o.val] w fun e w'=>e=.returned (.tuple #[(s.add o).1.val,.bool (s.add o).2])/\Below w.heap.size w w':=by
 cases hk:s.known
 ·exact Nx s o w ho.ok hk
 ·exact Ny s o w hs ho hk
end RefZc
namespace RefRa
open Go.RowKit Sq RefA RefO Aux
def TN (k:Nat):UInt8:=UInt8.ofNat (48+k)
theorem MI {k:Nat}(h:k<=9):(TN k).toNat=48+k:=by
 unfold TN;rw[UInt8.toNat_ofNat_of_lt' (by show _<256;omega)]
def pA (n:Nat):B:=if _h:n<=9 then [TN n]else pA (n/10)++[TN (n%10)]
termination_by n
decreasing_by omega
theorem C3 (n:Nat)(h:9<n):pA n=pA (n/10)++[TN (n%10)]:=by
 rw[pA,dif_neg (by omega)]
theorem Ax (n:Nat)(h:n<=9):pA n=[TN n]:=by
 rw[pA,dif_pos h]
theorem MH (w:World)(x:Int)(c:UInt8)(h:x=(c.toNat:Int)):(convert 93 9 (.slice (some ⟨w.heap.size,0,none⟩) 1 1)).run Tryz.prog (w.alloc (.cells #[.int .u8 x] 5))=.ok (.string (bs [c])) (w.alloc (.cells #[.int .u8 x] 5)):=by
 subst h;exact F4 w c
theorem Nc (c:UInt8)(s:B):Value.string (bs [c]++bs s)=.string (bs (c::s)):=by
 rw[AF (s:=bs [c]++bs s) (l:=c::s) (by rw[eJ,aE,aE];rfl)]
theorem J0 {n m:Nat}{s:B}(hn:n<=9223372036854775807)(h:10^s.length*m<=n)(h':s=[]\/1<=m):s.length<=18:=by
 rcases h' with rfl|h'
 ·simp
 ·by_cases hl:s.length<=18
  ·exact hl
  ·exfalso;have h1:10^19<=10^s.length:=Nat.pow_le_pow_right (by omega) (by omega);have h2:10^s.length*1<=10^s.length*m:=Nat.mul_le_mul_left _ h';omega
theorem NN {n m:Nat}{s:B}(h:10^s.length*m<=n)(c:UInt8):10^(c::s).length*(m/10)<=n:=by
 have:10^(c::s).length*(m/10)=10^s.length*(10*(m/10)):=by rw[jY,Nat.pow_succ,Nat.mul_assoc]
 rw[this];exact jS (Nat.mul_le_mul_left _ (by omega)) h
set_option maxRecDepth 20000 in
set_option maxHeartbeats 1000000 in
theorem yK (n:Nat)(w:World)(hn:n<=9223372036854775807):
  Calls Tryz.prog 191 #[.int .i64 n] w fun e w'=>e=.returned (.string (bs (pA n)))/\Below w.heap.size w w':=by
 go_enter Tryz.func191,Tryz.ntmps191
 have h1:((n:Int)== -9223372036854775808)=false:=by rw[jZ];omega
 have h2:¬(n:Int)<0:=by omega
 go_wp2
 go_loopg [0,3] (n) (fun g v0 v3 wr=>∃(m:Nat) (s:B),m<=n/\g=m/\v0=.int .i64 m/\v3=.string (bs s)/\Below w.heap.size w wr/\Hid (pA n=pA m++s)/\Hid (10^s.length*m<=n)/\Hid (s=[]\/1<=m))
 case atStart=>exact⟨n,[],by omega,rfl,rfl,rfl,Below.refl _ _,by unfold Hid;simp,by unfold Hid;simp,.inl rfl⟩
 case round=>
  obtain⟨m,s,hm,hgm,rfl,rfl,hB,HI,HP,HQ⟩:=hrel;have yV:s.length<=18:=J0 hn HP.out HQ.out;by_cases h9:9<m
  ·have h9I:(9:Int)<m:=by omega
   have HS:Hid (_=_):=C3 m h9;have kc:=MH wr (48+(m:Int)%10) (TN (m%10)) (by rw[MI (by omega)];omega);go_wp2
   go_roundg (m/10)
   case rel=>exact⟨m/10,TN (m%10)::s,by omega,rfl,by go_num,Nc _ _,hB.alloc hB.size _,by unfold Hid;rw[HI.out,HS.out];simp,NN HP.out _,.inr (by omega)⟩
   case measure=>omega
  ·have h9I:¬(9:Int)<m:=by omega
   have HS:Hid (_=_):=Ax m (by omega);have kc:=MH wr (48+(m:Int)) (TN m) (by rw[MI (by omega)];omega);go_wp2
   go_ret
   refine⟨oi ?_,hB.alloc hB.size _⟩;rw[HI.out,HS.out];apply AF
   rw[eJ,aE,aE]
def su (z:Int):B:=if z<0 then 45::pA z.natAbs else pA z.natAbs
theorem JT:pA 9223372036854775808=[57,50,50,51,51,55,50,48,51,54,56,53,52,55,55,53,56,48,56]:=by
 simp[pA,TN]
theorem Ay:∀(k n:Nat),n<10^(k+1)->(pA n).length<=k+1
 |0,n,h=>by rw[Ax n (by omega)];simp
 |k+1,n,h=>by
  by_cases h9:9<n
  ·rw[C3 n h9];have:=Ay k (n/10) (by rw[Nat.pow_succ]at h;omega);simp;omega
  ·rw[Ax n (by omega)];simp
set_option maxRecDepth 20000 in
set_option maxHeartbeats 1000000 in
theorem F8 (z:Int)(w:World)(h1: -9223372036854775808<=z)(h2:z<=9223372036854775807):
  Calls Tryz.prog 191 #[.int .i64 z] w fun e w'=>e=.returned (.string (bs (su z)))/\Below w.heap.size w w':=by
 by_cases h0:z<0
 ·by_cases hl:z= -9223372036854775808
  ·subst hl;have hd:su (-9223372036854775808)=45::[57,50,50,51,51,55,50,48,51,54,56,53,52,55,55,53,56,48,56]:=by
    unfold su;rw[jb (by decide),<-JT];rfl
   rw[hd];go_enter Tryz.func191,Tryz.ntmps191
   go_wp2
   go_ret
   exact⟨rfl,Below.refl _ _⟩
  ·obtain⟨n,rfl⟩:∃n:Nat,z= -(n:Int):=⟨z.natAbs,by omega⟩;have hd:su (-(n:Int))=45::pA n:=by unfold su;rw[jb h0];simp
   have HD:Hid (_=_):=hd;clear hd;have HP:=yK n w (by omega);have GL:((-(n:Int))== -9223372036854775808)=false:=by rw[jZ];exact hl
   have hlen:=Ay 18 n (by omega);have Ko:IntKind.i64.wrap (-(-(n:Int)))=n:=by rw[IntKind.wrap_i64];omega
   go_enter Tryz.func191,Tryz.ntmps191
   go_wp2_with (go_at_call 191;refine HP.mono ?_;rintro e w' ⟨rfl,hb⟩)
   go_ret
   exact⟨by rw[HD.out,<-Nc];rfl,hb⟩
 ·obtain⟨n,rfl⟩:∃n:Nat,z=(n:Int):=⟨z.natAbs,by omega⟩;have hd:su (n:Int)=pA n:=by unfold su;rw[ja h0];rfl
  rw[hd];exact yK n w (by omega)
end RefRa
namespace Mac
open Go Go.RowKit Sq Aux PrjJ PrjK PrjL PrjM Go.Proofs.YtmlgajhhnojdjaaGreatDoor.Own
structure RM where
 ints:List Int
 has:List Bool
 held:List Nat
 ba:List UInt8
 flags:List Bool
 boxes:List (Int×Bool)
 count:Int
 trace:B
 used:Nat
 out:Nat
 value:Int
structure Fx where
 a:Nat
 owns:Bool
 room:Int
 vi:Value
 kept:List (Nat×List Value×Fin 3)
def Cw (b:Fin 3):TypeId:=if b=0 then 89 else if b=1 then 90 else 73
def KV (l:List Int):List Value:=l.map fun v=> .int .i64 v
def qj (l:List Bool):List Value:=l.map Value.bool
def mF (l:List Nat):List Value:=l.map fun v=> .int .i64 (v:Nat)
def ey (l:List UInt8):List Value:=l.map fun v=> .int .u8 (v.toNat:Nat)
def Rs (f:Fx):List Value:=[.pointer (some ⟨f.a,0,none⟩),.bool f.owns]
def Tv (f:Fx)(m:RM)(vb vt:Value):List Value:=[vb,.int .i64 m.count,.int .i64 f.room,vt,f.vi,.int .i64 (m.used:Nat),.int .i64 (m.out:Nat),.int .i64 m.value]
def RM.cells (f:Fx)(m:RM)(vb vt:Value):List Value:=
 Rs f++(KV m.ints++(qj m.has++(mF m.held++(ey m.ba++(qj m.flags++Tv f m vb vt)))))
structure RM.rO (m:RM):Prop where
 ints:m.ints.length=24
 has:m.has.length=24
 held:m.held.length=24
 ba:m.ba.length=24
 flags:m.flags.length=50
structure bO (w0:World)(x:Nat)(f:Fx)(w:World)(m:RM)(vb vt:Value):Prop where
 base:w0.heap.size<=x
 aJ:w.heap[x]?=some (.cells (m.cells f vb vt).toArray 95 (0,0))
 boxes:w.ownsRow w0.heap.size 264 2 vb m.boxes.length (bH m.boxes)
 trace:w.ownsRow w0.heap.size 5 1 vt m.trace.length (ey m.trace)
 br:Below w0.heap.size w0 w
 len:m.rO
 loc:∀e∈f.kept,w.heap[e.1]?=some (.cells e.2.1.toArray (Cw e.2.2) (0,0))
def cd (w0:World)(x:Nat)(f:Fx)(w:World)(m:RM):Prop:=∃vb vt,bO w0 x f w m vb vt
theorem dG {A C:List Value}{n:Nat}(h:A.length=n)(k:Nat):(A++C)[n+k]?=C[k]?:=by
 rw[jf (by omega)];congr 1;omega
theorem dL {A C:List Value}{n:Nat}(h:A.length=n)(k:Nat)(v:Value):(A++C).set (n+k) v=A++C.set k v:=by
 rw[List.set_append_right _ _ (by omega)];congr 2;omega
theorem Em {A C:List Value}{n k:Nat}(h:A.length=n)(hk:k<n):(A++C)[k]?=A[k]?:=by
 rw[jg (by omega)]
theorem E9 {A C:List Value}{n k:Nat}(h:A.length=n)(hk:k<n)(v:Value):(A++C).set k v=A.set k v++C:=by
 rw[List.set_append_left _ _ (by omega)]
theorem gW (f:Fx):(Rs f).length=2:=rfl
section
variable {f:Fx} {m:RM} {vb vt:Value}
theorem RM.rO.l1 (h:m.rO):(KV m.ints).length=24:=by rw[KV,jc,h.ints]
theorem RM.rO.l2 (h:m.rO):(qj m.has).length=24:=by rw[qj,jc,h.has]
theorem RM.rO.l3 (h:m.rO):(mF m.held).length=24:=by rw[mF,jc,h.held]
theorem RM.rO.l4 (h:m.rO):(ey m.ba).length=24:=by rw[ey,jc,h.ba]
theorem RM.rO.l5 (h:m.rO):(qj m.flags).length=50:=by rw[qj,jc,h.flags]
theorem RM.rO.getInt (h:m.rO){j:Nat}(hj:j<24):(m.cells f vb vt)[2+j]?=some (.int .i64 (m.ints.getD j 0)):=by
 rw[RM.cells,dG (gW f),Em h.l1 hj,KV,jJ,jB (by rw[h.ints];exact hj),jA,jB (by rw[h.ints];exact hj)];rfl
theorem RM.rO.Xc (h:m.rO){j:Nat}(hj:j<24):(m.cells f vb vt)[26+j]?=some (.bool (m.has.getD j false)):=by
 rw[RM.cells,show 26+j=2+(24+j) by omega,dG (gW f),dG h.l1,Em h.l2 hj,qj,jJ,jB (by rw[h.has];exact hj),jA,jB (by rw[h.has];exact hj)];rfl
theorem RM.rO.Uy (h:m.rO){j:Nat}(hj:j<24):(m.cells f vb vt)[50+j]?=some (.int .i64 (m.held.getD j 0:Nat)):=by
 rw[RM.cells,show 50+j=2+(24+(24+j)) by omega,dG (gW f),dG h.l1,dG h.l2,Em h.l3 hj,mF,jJ,jB (by rw[h.held];exact hj),jA,jB (by rw[h.held];exact hj)];rfl
theorem RM.rO.Xd (h:m.rO){j:Nat}(hj:j<24):(m.cells f vb vt)[74+j]?=some (.int .u8 ((m.ba.getD j 0).toNat:Nat)):=by
 rw[RM.cells,show 74+j=2+(24+(24+(24+j))) by omega,dG (gW f),dG h.l1,dG h.l2,dG h.l3,Em h.l4 hj,ey,jJ,jB (by rw[h.ba];exact hj),jA,jB (by rw[h.ba];exact hj)];rfl
theorem RM.rO.jr (h:m.rO)(j:Nat):(m.cells f vb vt)[148+j]?=(Tv f m vb vt)[j]?:=by
 rw[RM.cells,show 148+j=2+(24+(24+(24+(24+(50+j))))) by omega,dG (gW f),dG h.l1,dG h.l2,dG h.l3,dG h.l4,dG h.l5]
theorem RM.rO.setInt (h:m.rO){j:Nat}(hj:j<24)(v:Int):(m.cells f vb vt).set (2+j) (.int .i64 v)=RM.cells f {m with ints:=m.ints.set j v} vb vt:=by
 rw[RM.cells,dL (gW f),E9 h.l1 hj];unfold RM.cells;simp[KV,List.map_set];rfl
theorem RM.rO.L1 (h:m.rO){j:Nat}(hj:j<24)(v:Bool):(m.cells f vb vt).set (26+j) (.bool v)=RM.cells f {m with has:=m.has.set j v} vb vt:=by
 rw[RM.cells,show 26+j=2+(24+j) by omega,dL (gW f),dL h.l1,E9 h.l2 hj];unfold RM.cells;simp[qj,List.map_set];rfl
theorem RM.rO.zZ (h:m.rO){j:Nat}(hj:j<24)(v:Nat):(m.cells f vb vt).set (50+j) (.int .i64 (v:Nat))=RM.cells f {m with held:=m.held.set j v} vb vt:=by
 rw[RM.cells,show 50+j=2+(24+(24+j)) by omega,dL (gW f),dL h.l1,dL h.l2,E9 h.l3 hj];unfold RM.cells;simp[mF,List.map_set];rfl
theorem RM.rO.pX (h:m.rO){j:Nat}(hj:j<24)(v:UInt8):(m.cells f vb vt).set (74+j) (.int .u8 (v.toNat:Nat))=RM.cells f {m with ba:=m.ba.set j v} vb vt:=by
 rw[RM.cells,show 74+j=2+(24+(24+(24+j))) by omega,dL (gW f),dL h.l1,dL h.l2,dL h.l3,E9 h.l4 hj];unfold RM.cells;simp[ey,List.map_set];rfl
theorem RM.rO.sh (h:m.rO)(j:Nat)(v:Value):(m.cells f vb vt).set (148+j) v=Rs f++(KV m.ints++(qj m.has++(mF m.held++(ey m.ba++(qj m.flags++(Tv f m vb vt).set j v))))):=by
 rw[RM.cells,show 148+j=2+(24+(24+(24+(24+(50+j))))) by omega,dL (gW f),dL h.l1,dL h.l2,dL h.l3,dL h.l4,dL h.l5]
end
theorem oF {w0 w:World}(h:Below w0.heap.size w0 w){x:Nat}(hx:w0.heap.size<=x)(j:Nat)(v:Value):Below w0.heap.size w0 (w.setCell ⟨x,j,none⟩ v):=
 ⟨h.os,h.tape,h.output,by simpa using h.size,fun k hk=>(Below.heap_setCell _ _ _ _ (by show k≠x;omega)).trans (h.block k hk)⟩
section
variable {w0 w w1 w2 w3:World} {x:Nat} {f:Fx} {m:RM} {vb vt v':Value}
theorem bO.lt (h:bO w0 x f w m vb vt):x<w.heap.size:=lt_of_heap h.aJ
theorem bO.below (h:bO w0 x f w m vb vt)(hb:Below w.heap.size w w1):bO w0 x f w1 m vb vt:=
 ⟨h.base,by rw[hb.block x h.lt];exact h.aJ,ay h.boxes hb,ay h.trace hb,h.br.trans (hb.mono h.br.size),h.len,fun e he=>by rw[hb.block _ (lt_of_heap (h.loc e he))];exact h.loc e he⟩
theorem cd.below (h:cd w0 x f w m)(hb:Below w.heap.size w w1):cd w0 x f w1 m:=by
 obtain⟨vb,vt,h⟩:=h;exact⟨vb,vt,h.below hb⟩
theorem bO.cell (h:bO w0 x f w m vb vt)(j:Nat):w.cell? ⟨x,j,none⟩=(m.cells f vb vt)[j]?:=by
 rw[cell_of_heap h.aJ];simp
theorem bO.Ci (h:bO w0 x f w m vb vt)(j:Nat):w.frozen? ⟨x,j,none⟩=false:=frozen_of_heap h.aJ j
theorem bO.facts (h:bO w0 x f w m vb vt):w.cell? ⟨x,0,none⟩=some (.pointer (some ⟨f.a,0,none⟩))/\w.cell? ⟨x,1,none⟩=some (.bool f.owns)/\w.cell? ⟨x,148,none⟩=some vb/\w.cell? ⟨x,149,none⟩=some (.int .i64 m.count)/\w.cell? ⟨x,150,none⟩=some (.int .i64 f.room)/\
  w.cell? ⟨x,151,none⟩=some vt/\w.cell? ⟨x,152,none⟩=some f.vi/\w.cell? ⟨x,153,none⟩=some (.int .i64 (m.used:Nat))/\w.cell? ⟨x,154,none⟩=some (.int .i64 (m.out:Nat))/\w.cell? ⟨x,155,none⟩=some (.int .i64 m.value):=
 ⟨by rw[h.cell];rfl,by rw[h.cell];rfl,by rw[h.cell,h.len.jr 0];rfl,by rw[h.cell,h.len.jr 1];rfl,by rw[h.cell,h.len.jr 2];rfl,by rw[h.cell,h.len.jr 3];rfl,by rw[h.cell,h.len.jr 4];rfl,by rw[h.cell,h.len.jr 5];rfl,by rw[h.cell,h.len.jr 6];rfl,by rw[h.cell,h.len.jr 7];rfl⟩
theorem bO.eB (h:bO w0 x f w m vb vt):w.frozen? ⟨x,148,none⟩=false/\w.frozen? ⟨x,149,none⟩=false/\w.frozen? ⟨x,151,none⟩=false/\w.frozen? ⟨x,153,none⟩=false/\w.frozen? ⟨x,154,none⟩=false/\w.frozen? ⟨x,155,none⟩=false:=
 ⟨h.Ci _,h.Ci _,h.Ci _,h.Ci _,h.Ci _,h.Ci _⟩
theorem bO.MX (h:bO w0 x f w m vb vt){j:Nat}(hj:j<24):w.cell? ⟨x,2+j,none⟩=some (.int .i64 (m.ints.getD j 0))/\w.frozen? ⟨x,2+j,none⟩=false:=⟨by rw[h.cell,h.len.getInt hj],h.Ci _⟩
theorem bO.eC (h:bO w0 x f w m vb vt){j:Nat}(hj:j<24):w.cell? ⟨x,26+j,none⟩=some (.bool (m.has.getD j false))/\w.frozen? ⟨x,26+j,none⟩=false:=⟨by rw[h.cell,h.len.Xc hj],h.Ci _⟩
theorem bO.Et (h:bO w0 x f w m vb vt){j:Nat}(hj:j<24):w.cell? ⟨x,50+j,none⟩=some (.int .i64 (m.held.getD j 0:Nat))/\w.frozen? ⟨x,50+j,none⟩=false:=⟨by rw[h.cell,h.len.Uy hj],h.Ci _⟩
theorem bO.qn (h:bO w0 x f w m vb vt){j:Nat}(hj:j<24):w.cell? ⟨x,74+j,none⟩=some (.int .u8 ((m.ba.getD j 0).toNat:Nat))/\w.frozen? ⟨x,74+j,none⟩=false:=⟨by rw[h.cell,h.len.Xd hj],h.Ci _⟩
theorem Ja:264≠95:=by decide
theorem Fi:5≠95:=by decide
theorem EF:∀b:Fin 3,95≠Cw b/\264≠Cw b/\5≠Cw b:=by decide
theorem bO.apart (h:bO w0 x f w m vb vt){e:Nat×List Value×Fin 3}(he:e∈f.kept):e.1≠x:=fun e1=>by
 have h1:=h.loc e he;rw[e1,h.aJ]at h1;injection h1 with h1
 injection h1 with _ h2 _
 exact(EF e.2.2).1 h2
theorem bO.put (h:bO w0 x f w m vb vt){j:Nat}{v:Value}{m':RM}(hc:(m.cells f vb vt).set j v=m'.cells f vb vt)(h1:m'.boxes=m.boxes)(h2:m'.trace=m.trace)(h3:m'.rO):bO w0 x f (w.setCell ⟨x,j,none⟩ v) m' vb vt:=by
 refine⟨h.base,?_,?_,?_,oF h.br h.base _ _,h3,fun e he=>(Below.heap_setCell _ _ _ _ (h.apart he)).trans (h.loc e he)⟩
 ·rw[Aux.heap_setCell_same h.aJ,<-hc];simp
 ·rw[h1];exact av h.boxes _ (au h.boxes h.aJ Ja)
 ·rw[h2];exact av h.trace _ (au h.trace h.aJ Fi)
end
end Mac
namespace Mac
open Go Go.RowKit Sq Aux PrjJ PrjK PrjL PrjM Go.Proofs.YtmlgajhhnojdjaaGreatDoor.Own RefRa
theorem vU {w:World}{base:Nat}{e:TypeId}{size:Nat}{v:Value}{n:Nat}{xs:List Value}(h:w.ownsRow base e size v n xs):∃b cap,v=.slice b n cap:=by
 obtain⟨-,h⟩:=h;rcases h with⟨rfl,rfl⟩|⟨g,cap,cur,rfl,-⟩
 ·exact⟨_,_,rfl⟩
 ·exact⟨_,_,rfl⟩
section
variable {w0 w w1 w2 w3:World} {x:Nat} {f:Fx} {m:RM} {vb vt v':Value}
theorem bO.setInt (h:bO w0 x f w m vb vt){j:Nat}(hj:j<24)(v:Int):bO w0 x f (w.setCell ⟨x,2+j,none⟩ (.int .i64 v)) {m with ints:=m.ints.set j v} vb vt:=
 h.put (h.len.setInt hj v) rfl rfl ⟨by simpa using h.len.ints,h.len.has,h.len.held,h.len.ba,h.len.flags⟩
theorem bO.L1 (h:bO w0 x f w m vb vt){j:Nat}(hj:j<24)(v:Bool):bO w0 x f (w.setCell ⟨x,26+j,none⟩ (.bool v)) {m with has:=m.has.set j v} vb vt:=
 h.put (h.len.L1 hj v) rfl rfl ⟨h.len.ints,by simpa using h.len.has,h.len.held,h.len.ba,h.len.flags⟩
theorem bO.zZ (h:bO w0 x f w m vb vt){j:Nat}(hj:j<24)(v:Nat):bO w0 x f (w.setCell ⟨x,50+j,none⟩ (.int .i64 (v:Nat))) {m with held:=m.held.set j v} vb vt:=
 h.put (h.len.zZ hj v) rfl rfl ⟨h.len.ints,h.len.has,by simpa using h.len.held,h.len.ba,h.len.flags⟩
theorem bO.pX (h:bO w0 x f w m vb vt){j:Nat}(hj:j<24)(v:UInt8):bO w0 x f (w.setCell ⟨x,74+j,none⟩ (.int .u8 (v.toNat:Nat))) {m with ba:=m.ba.set j v} vb vt:=
 h.put (h.len.pX hj v) rfl rfl ⟨h.len.ints,h.len.has,h.len.held,by simpa using h.len.ba,h.len.flags⟩
theorem bO.IW (h:bO w0 x f w m vb vt)(v:Int):bO w0 x f (w.setCell ⟨x,149,none⟩ (.int .i64 v)) {m with count:=v} vb vt:=
 h.put (h.len.sh 1 _) rfl rfl ⟨h.len.ints,h.len.has,h.len.held,h.len.ba,h.len.flags⟩
theorem bO.Ni (h:bO w0 x f w m vb vt)(v:Nat):bO w0 x f (w.setCell ⟨x,153,none⟩ (.int .i64 (v:Nat))) {m with used:=v} vb vt:=
 h.put (h.len.sh 5 _) rfl rfl ⟨h.len.ints,h.len.has,h.len.held,h.len.ba,h.len.flags⟩
theorem bO.tG (h:bO w0 x f w m vb vt)(v:Nat):bO w0 x f (w.setCell ⟨x,154,none⟩ (.int .i64 (v:Nat))) {m with out:=v} vb vt:=
 h.put (h.len.sh 6 _) rfl rfl ⟨h.len.ints,h.len.has,h.len.held,h.len.ba,h.len.flags⟩
theorem bO.setValue (h:bO w0 x f w m vb vt)(v:Int):bO w0 x f (w.setCell ⟨x,155,none⟩ (.int .i64 v)) {m with value:=v} vb vt:=
 h.put (h.len.sh 7 _) rfl rfl ⟨h.len.ints,h.len.has,h.len.held,h.len.ba,h.len.flags⟩
theorem mU {w0 w w1:World}(h:Below w0.heap.size w0 w){ob:Option Nat}(hg:w.grownBy w1 ob)(ec:∀k,k<w0.heap.size->some k≠ob):Below w0.heap.size w0 w1:=
 ⟨hg.os.trans h.os,hg.tape.trans h.tape,hg.output.trans h.output,jS h.size hg.size,fun k hk=>(hg.block k (jK hk h.size) (ec k hk)).trans (h.block k hk)⟩
theorem bO.Mw (h:bO w0 x f w m vb vt){c:UInt8}(h3:w3.ownsRow w0.heap.size 5 1 v' (m.trace.length+1) (ey m.trace++[.int .u8 (c.toNat:Nat)]))(hg:w.grownBy w3 vt.ownBlock):
  w3.heap[x]?=some (.cells (m.cells f vb vt).toArray 95 (0,0))/\bO w0 x f (w3.setCell ⟨x,151,none⟩ v') {m with trace:=m.trace++[c]} vb v':=by
 have ec:some x≠vt.ownBlock:=bj h.trace h.aJ Fi;have bV:w3.heap[x]?=some (.cells (m.cells f vb vt).toArray 95 (0,0)):=by rw[hg.block x h.lt ec];exact h.aJ
 have hm:=h.boxes.kept hg (da h.boxes h.trace (by decide));have hold:Below w0.heap.size w0 w3:=mU h.br hg (fun k hk e=>by have:=(h.trace.lt k e.symm).1;omega);refine⟨bV,⟨h.base,?_,av hm _ (au hm bV Ja),?_,oF hold h.base _ _,⟨h.len.ints,h.len.has,h.len.held,h.len.ba,h.len.flags⟩,fun e he=>(Below.heap_setCell _ _ _ _ (h.apart he)).trans ((hg.block _ (lt_of_heap (h.loc e he)) (bj h.trace (h.loc e he) (EF e.2.2).2.2)).trans (h.loc e he))⟩⟩
 ·rw[Aux.heap_setCell_same bV];have:=h.len.sh (f:=f) (vb:=vb) (vt:=vt) 3 v';simp only[List.setIfInBounds_toArray];rw[this];rfl
 ·have:=av h3 (a:=⟨x,151,none⟩) v' (au h3 bV Fi);simpa [ey]using this
theorem bO.Jz (h:bO w0 x f w m vb vt){b:Int×Bool}(h3:w3.ownsRow w0.heap.size 264 2 v' (m.boxes.length+1) (bH m.boxes++py b))(hg:w.grownBy w3 vb.ownBlock):
  w3.heap[x]?=some (.cells (m.cells f vb vt).toArray 95 (0,0))/\bO w0 x f (w3.setCell ⟨x,148,none⟩ v') {m with boxes:=m.boxes++[b]} v' vt:=by
 have ec:some x≠vb.ownBlock:=bj h.boxes h.aJ Ja;have bV:w3.heap[x]?=some (.cells (m.cells f vb vt).toArray 95 (0,0)):=by rw[hg.block x h.lt ec];exact h.aJ
 have hm:=h.trace.kept hg (da h.trace h.boxes (by decide));have hold:Below w0.heap.size w0 w3:=mU h.br hg (fun k hk e=>by have:=(h.boxes.lt k e.symm).1;omega);refine⟨bV,⟨h.base,?_,?_,av hm _ (au hm bV Fi),oF hold h.base _ _,⟨h.len.ints,h.len.has,h.len.held,h.len.ba,h.len.flags⟩,fun e he=>(Below.heap_setCell _ _ _ _ (h.apart he)).trans ((hg.block _ (lt_of_heap (h.loc e he)) (bj h.boxes (h.loc e he) (EF e.2.2).2.1)).trans (h.loc e he))⟩⟩
 ·rw[Aux.heap_setCell_same bV];have:=h.len.sh (f:=f) (vb:=vb) (vt:=vt) 0 v';simp only[List.setIfInBounds_toArray];rw[this];rfl
 ·have:=av h3 (a:=⟨x,148,none⟩) v' (au h3 bV Ja);simpa [bH]using this
def RM.box (m:RM)(n:Nat):Int×Bool:=m.boxes.getD (n-1) (0,false)
theorem bO.box (h:bO w0 x f w m vb vt){n:Nat}(h1:1<=n)(hn:n<=m.boxes.length):∃g cap,vb=.slice (some ⟨g,0,none⟩) m.boxes.length cap/\m.boxes.length<=cap/\g<w.heap.size/\w.cell? ⟨g,(n-1)*2,none⟩=some (.int .i64 (m.box n).1)/\w.cell? ⟨g,(n-1)*2+1,none⟩=some (.bool (m.box n).2)/\
  w.frozen? ⟨g,(n-1)*2,none⟩=false/\w.frozen? ⟨g,(n-1)*2+1,none⟩=false:=by
 obtain⟨g,cap,rfl,hc,hg,aD⟩:=dK h.boxes (by omega);obtain⟨b0,b1⟩:=zF m.boxes (n-1) (by omega);exact⟨g,cap,rfl,hc,hg,by rw[aD _ (by omega)];exact b0,by rw[aD _ (by omega)];exact b1,h.boxes.frozenAt _,h.boxes.frozenAt _⟩
theorem bO.tF {g cap:Nat}(h:bO w0 x f w m (.slice (some ⟨g,0,none⟩) m.boxes.length cap) vt){n:Nat}(h1:1<=n)(hn:n<=m.boxes.length):
  (∀v:Int,bO w0 x f (w.setCell ⟨g,(n-1)*2,none⟩ (.int .i64 v)) {m with boxes:=m.boxes.set (n-1) (v,(m.box n).2)} (.slice (some ⟨g,0,none⟩) m.boxes.length cap) vt)/\
  (∀v:Bool,bO w0 x f (w.setCell ⟨g,(n-1)*2+1,none⟩ (.bool v)) {m with boxes:=m.boxes.set (n-1) ((m.box n).1,v)} (.slice (some ⟨g,0,none⟩) m.boxes.length cap) vt):=by
 obtain⟨b0,b1⟩:=zF m.boxes (n-1) (by omega);have Y0:x≠g:=fun e=>au h.boxes h.aJ Ja (by rw[e];rfl)
 have hzg:w0.heap.size<=g:=(h.boxes.lt g rfl).1;have htg:vt.ownBlock≠some g:=fun e=>by
  rcases da h.trace h.boxes (by decide)with h0|h0
  ·rw[e]at h0;cases h0
  ·exact h0 e
 have aJ:∀(o:Nat) (u:Value),(w.setCell ⟨g,o,none⟩ u).heap[x]?=w.heap[x]?:=fun o u=>Below.heap_setCell _ _ _ _ (by show x≠g;exact Y0)
 have hk:∀(o:Nat) (u:Value),∀e∈f.kept,(w.setCell ⟨g,o,none⟩ u).heap[e.1]?=some (.cells e.2.1.toArray (Cw e.2.2) (0,0)):=fun o u e he=>(Below.heap_setCell _ _ _ _ (by show e.1≠g;exact fun e1=>bj h.boxes (h.loc e he) (EF e.2.2).2.1 (by rw[e1];rfl))).trans (h.loc e he)
 have hl:∀L,({m with boxes:=L}:RM).rO:=fun L=>⟨h.len.ints,h.len.has,h.len.held,h.len.ba,h.len.flags⟩
 constructor
 ·intro v;refine⟨h.base,by rw[aJ];exact h.aJ,?_,av h.trace _ htg,oF h.br hzg _ _,hl _,hk _ _⟩;have:=(h.boxes.stored ((n-1)*2) (.int .i64 v)).1;have e:bH (m.boxes.set (n-1) (v,(m.box n).2))=(bH m.boxes).set ((n-1)*2) (.int .i64 v):=by
   rw[ve,jb (by omega)];refine xi ?_;rw[List.getElem?_set_ne (by omega)];exact b1
  simp only[List.length_set];rw[e];exact this
 ·intro v;refine⟨h.base,by rw[aJ];exact h.aJ,?_,av h.trace _ htg,oF h.br hzg _ _,hl _,hk _ _⟩;have:=(h.boxes.stored ((n-1)*2+1) (.bool v)).1;have e:bH (m.boxes.set (n-1) ((m.box n).1,v))=(bH m.boxes).set ((n-1)*2+1) (.bool v):=by
   rw[ve,jb (by omega)];have:(bH m.boxes).set ((n-1)*2) (.int .i64 (m.box n).1)=bH m.boxes:=xi b0;rw[this]
  simp only[List.length_set];rw[e];exact this
end
end Mac
end Go.Proofs.YtmlgajhhnojdjaaGreatDoor

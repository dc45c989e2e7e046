import Derived.Test.YtmlgajhhnojdjaaGreatDoorRAM
namespace Go.Proofs.YtmlgajhhnojdjaaGreatDoor
namespace RefZc
open Go.RowKit Sq RefA RefO RefR Aux
attribute [local go_sem ↓] dc cG
theorem aA.Th {w:World}{b:Nat}{s:WS}(h:aA w b s)(k:Bool):aA (w.setCell ⟨b,0,none⟩ (.bool k)) b {s with known:=k}:=by
 unfold aA;rw[Go.Proofs.YtmlgajhhnojdjaaGreatDoor.Aux.heap_setCell_same h];congr 2
structure Nr (w wr:World)(s o:WS):Prop where
 one:aA wr w.heap.size s
 other:aA wr (w.heap.size+1) o
 zero:aA wr (w.heap.size+2) aH
 bq:Below w.heap.size w wr
theorem Nr.below {w wr w':World}{s o:WS}(h:Nr w wr s o)(hb:Below wr.heap.size wr w'):Nr w w' s o:=
 ⟨h.one.below hb,h.other.below hb,h.zero.below hb,h.bq.trans (hb.mono h.bq.size)⟩
theorem DR (w:World)(s o:WS):Nr w (((w.alloc (.cells s.cells.toArray 155)).alloc (.cells o.cells.toArray 155)).alloc (.cells aH.cells.toArray 155)) s o:=by
 have h1:=aA.new w s;have h2:=aA.new (w.alloc (.cells s.cells.toArray 155)) o;have h3:=aA.new ((w.alloc (.cells s.cells.toArray 155)).alloc (.cells o.cells.toArray 155)) aH;refine⟨(h1.below (bF _ _)).below (bF _ _),?_,?_,((bF w _).alloc (by simp) _).alloc (by simp;omega) _⟩
 ·have:=h2.below (bF _ (.cells aH.cells.toArray 155));simpa using this
 ·simpa using h3
theorem Nr.set {w wr:World}{s o:WS}(h:Nr w wr s o)(k:Nat)(c:B):Nr w (wr.setCell ⟨w.heap.size,1+k,none⟩ (.string (bs c))) (WS.set s k c) o:=
 ⟨h.one.set k c,h.other.setOther (by simp) _,h.zero.setOther (by simp) _,h.bq.setCell (jC _) _⟩
theorem CQ {tmps:Array Value}{w wr:World}{t:WS}{b:Bool}{R:Ending->World->Prop}(hK:aA wr (w.heap.size+2) aH)(ht:t.Ok)(h6:tmps.getD 4 undef=.pointer (some ⟨w.heap.size+2,0,none⟩))(h7:tmps.getD 5 undef=.bool b)
  (h:R (.returned (.tuple #[t.val,.bool b])) (wr.setCells (w.heap.size+2) 0 t.cells)):bodyPost Tryz.prog Tryz.f86 R Exit.ret {tmps:=tmps,defers:=[]} (wr.setCells (w.heap.size+2) 0 t.cells):=by
 refine bodyPost_ret (eF Tryz.results86 tmps _ _ (w.heap.size+2) t.cells _ h6 (hK.store bE ht).range Tryz.underlying155 rfl (eC ht)) rfl ?_;rw[h7];exact h
set_option maxRecDepth 20000 in
set_option maxHeartbeats 4000000 in
theorem Nw (s o:WS)(w:World)(ho:o.Ok)(hk:s.known=false):
  Calls Tryz.prog 86 #[s.val,o.val] w fun e w'=>e=.returned (.tuple #[(s.add o).1.val,.bool (s.add o).2])/\Below w.heap.size w w':=by
 have HR:Hid (s.add o=({o with known:=true},true)):=by unfold Hid WS.add;rw[hk];rfl
 have ho':WS.Ok {o with known:=true}:=⟨ho.len,ho.fc⟩;rw[HR.out];unfold WS.val;go_enter Tryz.func86,Tryz.ntmps86
 go_upto_region 0 with fail
 go_cut [2,3,4] (fun v2 v3 v4 wc=>Nr w wc s o/\v2=.pointer (some ⟨w.heap.size,0,none⟩)/\v3=.pointer (some ⟨w.heap.size+1,0,none⟩)/\v4=.pointer (some ⟨w.heap.size+2,0,none⟩))
 case first=>
  go_wp2
  go_meet
  case rel=>exact⟨DR w s o,rfl,rfl,rfl⟩
 case rest=>
  obtain⟨hT,rfl,rfl,rfl⟩:=hcut;have zK:=hT.one.known;rw[hk]at zK;have hfr:=hT.other.frozen 0;have ko:=hT.other.known;have hsk:=aA.Th hT.other true;have hz:=hT.zero.setOther (a:=⟨w.heap.size+1,0,none⟩) (by simp) (.bool true);have hh:aT (wc.setCell ⟨w.heap.size+1,0,none⟩ (.bool true)) (w.heap.size+1):=⟨_,ho',hsk⟩;have hhz:aT (wc.setCell ⟨w.heap.size+1,0,none⟩ (.bool true)) (w.heap.size+2):=⟨_,bE,hz⟩;have hv:=bt hsk;have xS:df (WS.cells {o with known:=true}).toArray:=⟨_,ho',rfl⟩;go_wp2
  all_goals exact CQ hz ho' rfl rfl ⟨rfl,ay (hT.bq.setCell (by simp) _) (by omega) _ _⟩
set_option maxRecDepth 20000 in
set_option maxHeartbeats 4000000 in
theorem Nx (s o:WS)(w:World)(hs:s.dS)(ho:o.dS)(hk:s.known=true):
  Calls Tryz.prog 86 #[s.val,o.val] w fun e w'=>e=.returned (.tuple #[(s.add o).1.val,.bool (s.add o).2])/\Below w.heap.size w w':=by
 have HR:Hid (s.add o=eV o (24-0) 0 s false):=by unfold Hid WS.add;rw[hk];rfl
 have HO:Hid (o.dS):=ho;have HF:Hid (s.dS):=hs;have HU:Hid ((s.add o).1.dS):=WS.zy hs ho;unfold WS.val;clear ho hs;go_enter Tryz.func86,Tryz.ntmps86
 go_upto_region 0 with fail
 go_cut [2,3,4] (fun v2 v3 v4 wc=>Nr w wc s o/\v2=.pointer (some ⟨w.heap.size,0,none⟩)/\v3=.pointer (some ⟨w.heap.size+1,0,none⟩)/\v4=.pointer (some ⟨w.heap.size+2,0,none⟩))
 case first=>
  go_wp2
  go_meet
  case rel=>exact⟨DR w s o,rfl,rfl,rfl⟩
 case rest=>
  obtain⟨hT,rfl,rfl,rfl⟩:=hcut;have zK:=hT.one.known;rw[hk]at zK;go_wp2
  clear zK;go_loopg [6,7] (24) (fun g vm vi wr=>∃(i:Nat) (si:WS) (m:Bool),i<=24/\g+i=24/\vi=.int .i64 i/\vm=.bool m/\Nr w wr si o/\Hid (si.dS)/\Hid (s.add o=eV o (24-i) i si m))
  case atStart=>exact⟨0,s,false,by omega,rfl,rfl,rfl,hT,HF,HR⟩
  case round=>
   clear hT HR;obtain⟨i,si,m,hi,YN,rfl,rfl,hT,Y6,HI⟩:=hrel;by_cases aK:i<24
   ·have HS:Hid (_=_):=FO o i si m aK;have XD:(i:Int)<24:=by omega
    obtain⟨L,hL⟩:∃L,L=(o.at i).length:=⟨_,rfl⟩;have HLn:Hid (L=(o.at i).length):=hL;have hL4:L<=4:=by rw[hL];exact(HO.out.fc i).length
    clear hL;go_wp2
    go_loopg [6,8,9] (L) (fun g vm vk v9 wr=>∃(k:Nat) (x:B) (n:Bool),k<=L/\g+k=L/\vk=.int .i64 k/\vm=.bool n/\Nr w wr (WS.set si i x) o/\Hid (dS x)/\Hid (eU (si.at i) m (o.at i)=eU x n ((o.at i).drop k)))
    case atStart=>exact⟨0,si.at i,m,by omega,by omega,rfl,rfl,by rw[WS.IX _ _ (by rw[Y6.out.len];omega)];exact hT,Y6.out.fc i,rfl⟩
    case round=>
     clear hT;obtain⟨k,x,n,GJ,GH,rfl,rfl,hT,HX,HJ⟩:=hrel;have hfi:=Y6.out.set i HX.out;have Ep:(WS.set si i x).at i=x:=by rw[WS.D1 _ _ _ _ (by rw[Y6.out.len];omega),jb rfl]
     have ko:=hT.one.cell hfi.ok i aK;rw[Ep]at ko;have mZ:=hT.other.cell HO.out.ok i aK;by_cases hkL:k<L
     ·have tM:k<(o.at i).length:=by rw[<-HLn.out];exact hkL
      have hkb:k<(bs (o.at i)).size:=by simpa using tM
      have ZB:Nr w wr.drew (WS.set si i x) o:=hT.below ((Below.refl _ _).drew);have HA:=TK (bs x) (bs (o.at i))[k] wr.drew (by have:=HX.out.length;simp;omega);rw[aD]at HA;have HL:Hid (dS (fS x (o.at i)[k])):=DT HX.out ((HO.out.fc i).qh _ (jL _));have HJ2:Hid (_=_):=Jz x n (o.at i) k tM;go_wp2_with fail
      go_region_law (go_simp;go_at_call 142;refine HA.mono ?_;rintro e w1 ⟨rfl,av⟩)
      all_goals
       have qp:=ZB.below av;have vA:=qp.one.cell hfi.ok i aK;rw[Ep]at vA;have hfr:=qp.one.frozen (1+i);have HT1:Hid (Nr w w1 (WS.set si i x) o):=qp;clear qp ZB ko mZ hT;cases n
       all_goals
        go_wp2
        go_roundg (L-(k+1))
        case rel=>
         refine⟨k+1,_,_,by omega,by omega,by go_num,rfl,by have:=HT1.out.set i (fS x (o.at i)[k]);rw[WS.set_set]at this;exact this,HL,?_⟩;unfold Hid;rw[HJ.out,HJ2.out];rfl
        case measure=>omega
     ·have tM:¬(k:Int)<(o.at i).length:=by rw[<-HLn.out];omega
      have HE:Hid (iU o i si m=(WS.set si i x,n)):=by
       unfold Hid iU;rw[HJ.out,jT (by rw[<-HLn.out];omega)];rfl
      go_wp2
      go_roundg (24-(i+1))
      case rel=>
       refine⟨i+1,_,_,by omega,by omega,by go_num,rfl,hT,hfi,?_⟩;unfold Hid;rw[HI.out,HS.out,HE.out]
      case measure=>omega
   ·have HE:Hid (s.add o=(si,m)):=by
     unfold Hid;rw[HI.out,show 24-i=0 by omega];rfl
    have RO:=Y6.out.ok;have hh:aT wr w.heap.size:=⟨_,RO,hT.one⟩;have hhz:aT wr (w.heap.size+2):=⟨_,bE,hT.zero⟩;have hv:=bt hT.one;have xS:df si.cells.toArray:=⟨_,RO,rfl⟩;go_wp2
    all_goals exact CQ hT.zero RO rfl rfl ⟨by rw[HE.out];rfl,ay hT.bq (by omega) _ _⟩
theorem Nv (s o:WS)(w:World)(hs:s.dS)(ho:o.dS):
  Calls Tryz.prog 86 #[s.val,o.val] w fun e w'=>e=.returned (.tuple #[(s.add o).1.val,.bool (s.add o).2])/\Below w.heap.size w w':=by
 cases hk:s.known
 ·exact Nw s o w ho.ok hk
 ·exact Nx s o w hs ho hk
end RefZc
namespace RefRa
open Go.RowKit Sq RefA RefO Aux
def TM (k:Nat):UInt8:=UInt8.ofNat (48+k)
theorem MH {k:Nat}(h:k<=9):(TM k).toNat=48+k:=by
 unfold TM;rw[UInt8.toNat_ofNat_of_lt' (by show _<256;omega)]
def pz (n:Nat):B:=if _h:n<=9 then [TM n]else pz (n/10)++[TM (n%10)]
termination_by n
decreasing_by omega
theorem C2 (n:Nat)(h:9<n):pz n=pz (n/10)++[TM (n%10)]:=by
 rw[pz,dif_neg (by omega)]
theorem Aw (n:Nat)(h:n<=9):pz n=[TM n]:=by
 rw[pz,dif_pos h]
theorem MG (w:World)(x:Int)(c:UInt8)(h:x=(c.toNat:Int)):(convert 93 9 (.slice (some ⟨w.heap.size,0,none⟩) 1 1)).run Tryz.prog (w.alloc (.cells #[.int .u8 x] 5))=.ok (.string (bs [c])) (w.alloc (.cells #[.int .u8 x] 5)):=by
 subst h;exact F3 w c
theorem Nb (c:UInt8)(s:B):Value.string (bs [c]++bs s)=.string (bs (c::s)):=by
 rw[AE (s:=bs [c]++bs s) (l:=c::s) (by rw[eI,aD,aD];rfl)]
theorem JZ {n m:Nat}{s:B}(hn:n<=9223372036854775807)(h:10^s.length*m<=n)(h':s=[]\/1<=m):s.length<=18:=by
 rcases h' with rfl|h'
 ·simp
 ·by_cases hl:s.length<=18
  ·exact hl
  ·exfalso;have h1:10^19<=10^s.length:=Nat.pow_le_pow_right (by omega) (by omega);have h2:10^s.length*1<=10^s.length*m:=Nat.mul_le_mul_left _ h';omega
theorem NM {n m:Nat}{s:B}(h:10^s.length*m<=n)(c:UInt8):10^(c::s).length*(m/10)<=n:=by
 have:10^(c::s).length*(m/10)=10^s.length*(10*(m/10)):=by rw[jY,Nat.pow_succ,Nat.mul_assoc]
 rw[this];exact jS (Nat.mul_le_mul_left _ (by omega)) h
set_option maxRecDepth 20000 in
set_option maxHeartbeats 1000000 in
theorem yJ (n:Nat)(w:World)(hn:n<=9223372036854775807):
  Calls Tryz.prog 191 #[.int .i64 n] w fun e w'=>e=.returned (.string (bs (pz n)))/\Below w.heap.size w w':=by
 go_enter Tryz.func191,Tryz.ntmps191
 have h1:((n:Int)== -9223372036854775808)=false:=by rw[jZ];omega
 have h2:¬(n:Int)<0:=by omega
 go_wp2
 go_loopg [0,3] (n) (fun g v0 v3 wr=>∃(m:Nat) (s:B),m<=n/\g=m/\v0=.int .i64 m/\v3=.string (bs s)/\Below w.heap.size w wr/\Hid (pz n=pz m++s)/\Hid (10^s.length*m<=n)/\Hid (s=[]\/1<=m))
 case atStart=>exact⟨n,[],by omega,rfl,rfl,rfl,Below.refl _ _,by unfold Hid;simp,by unfold Hid;simp,.inl rfl⟩
 case round=>
  obtain⟨m,s,hm,hgm,rfl,rfl,hB,HI,HP,HQ⟩:=hrel;have yU:s.length<=18:=JZ hn HP.out HQ.out;by_cases h9:9<m
  ·have h9I:(9:Int)<m:=by omega
   have HS:Hid (_=_):=C2 m h9;have kc:=MG wr (48+(m:Int)%10) (TM (m%10)) (by rw[MH (by omega)];omega);go_wp2
   go_roundg (m/10)
   case rel=>exact⟨m/10,TM (m%10)::s,by omega,rfl,by go_num,Nb _ _,hB.alloc hB.size _,by unfold Hid;rw[HI.out,HS.out];simp,NM HP.out _,.inr (by omega)⟩
   case measure=>omega
  ·have h9I:¬(9:Int)<m:=by omega
   have HS:Hid (_=_):=Aw m (by omega);have kc:=MG wr (48+(m:Int)) (TM m) (by rw[MH (by omega)];omega);go_wp2
   go_ret
   refine⟨oh ?_,hB.alloc hB.size _⟩;rw[HI.out,HS.out];apply AE
   rw[eI,aD,aD]
def ss (z:Int):B:=if z<0 then 45::pz z.natAbs else pz z.natAbs
theorem JS:pz 9223372036854775808=[57,50,50,51,51,55,50,48,51,54,56,53,52,55,55,53,56,48,56]:=by
 simp[pz,TM]
theorem Ax:∀(k n:Nat),n<10^(k+1)->(pz n).length<=k+1
 |0,n,h=>by rw[Aw n (by omega)];simp
 |k+1,n,h=>by
  by_cases h9:9<n
  ·rw[C2 n h9];have:=Ax k (n/10) (by rw[Nat.pow_succ]at h;omega);simp;omega
  ·rw[Aw n (by omega)];simp
set_option maxRecDepth 20000 in
set_option maxHeartbeats 1000000 in
theorem F7 (z:Int)(w:World)(h1: -9223372036854775808<=z)(h2:z<=9223372036854775807):
  Calls Tryz.prog 191 #[.int .i64 z] w fun e w'=>e=.returned (.string (bs (ss z)))/\Below w.heap.size w w':=by
 by_cases h0:z<0
 ·by_cases hl:z= -9223372036854775808
  ·subst hl;have hd:ss (-9223372036854775808)=45::[57,50,50,51,51,55,50,48,51,54,56,53,52,55,55,53,56,48,56]:=by
    unfold ss;rw[jb (by decide),<-JS];rfl
   rw[hd];go_enter Tryz.func191,Tryz.ntmps191
   go_wp2
   go_ret
   exact⟨rfl,Below.refl _ _⟩
  ·obtain⟨n,rfl⟩:∃n:Nat,z= -(n:Int):=⟨z.natAbs,by omega⟩;have hd:ss (-(n:Int))=45::pz n:=by unfold ss;rw[jb h0];simp
   have HD:Hid (_=_):=hd;clear hd;have HP:=yJ n w (by omega);have GK:((-(n:Int))== -9223372036854775808)=false:=by rw[jZ];exact hl
   have hlen:=Ax 18 n (by omega);have Kn:IntKind.i64.wrap (-(-(n:Int)))=n:=by rw[IntKind.wrap_i64];omega
   go_enter Tryz.func191,Tryz.ntmps191
   go_wp2_with (go_at_call 191;refine HP.mono ?_;rintro e w' ⟨rfl,hb⟩)
   go_ret
   exact⟨by rw[HD.out,<-Nb];rfl,hb⟩
 ·obtain⟨n,rfl⟩:∃n:Nat,z=(n:Int):=⟨z.natAbs,by omega⟩;have hd:ss (n:Int)=pz n:=by unfold ss;rw[ja h0];rfl
  rw[hd];exact yJ n w (by omega)
end RefRa
namespace RefU
open Go.RowKit Sq RefA RefO RefP RefQ RefR RefS RefT Aux
attribute [local go_sem ↓] dc cG
structure iT (p:RP)(a:Nat)(s:WS)(ws:List B)(gw:Nat)(w:World):Prop where
 prog:bd w a p
 ok:p.Ok
 ways:s.Ok
 aV:p.lets.length<=12
 row:gw<w.heap.size
 one:1<=ws.length
 cells:∀j,j<ws.length->w.cell? ⟨gw,j,none⟩=some (.string (bs (word ws j)))
 long:∀j,(word ws j).length<=maxLen
 wide:ws.length<=1099511627777
theorem iT.cell {p:RP}{a:Nat}{s:WS}{ws:List B}{gw:Nat}{w:World}(h:iT p a s ws gw w){wr:World}(hb:Below w.heap.size w wr)(j:Nat)(hj:j<ws.length):wr.cell? ⟨gw,j,none⟩=some (.string (bs (word ws j))):=
 (hb.cell (p:=⟨gw,j,none⟩) h.row).trans (h.cells j hj)
theorem gZ {tmps:Array Value}{w wr:World}{t:WS}{b:Bool}{R:Ending->World->Prop}(hK:aA wr (w.heap.size+1) aH)(ht:t.Ok)(h6:tmps.getD 6 undef=.pointer (some ⟨w.heap.size+1,0,none⟩))(h7:tmps.getD 7 undef=.bool b)
  (h:R (.returned (.tuple #[t.val,.bool b])) (wr.setCells (w.heap.size+1) 0 t.cells)):bodyPost Tryz.prog Tryz.f84 R Exit.ret {tmps:=tmps,defers:=[]} (wr.setCells (w.heap.size+1) 0 t.cells):=by
 refine bodyPost_ret (eF Tryz.results84 tmps _ _ (w.heap.size+1) t.cells _ h6 (hK.store bE ht).range Tryz.underlying155 rfl (eC ht)) rfl ?_;rw[h7];exact h
set_option maxRecDepth 20000 in
set_option maxHeartbeats 2000000 in
theorem I3 (p:RP)(a:Nat)(s:WS)(ws:List B)(gw cw:Nat)(w:World)(H:iT p a s ws gw w)(hlen:2<=ws.length)(pF:0<=p.find (ai (word ws 1)))(h0:word ws 0=[115,101,116]\/word ws 0=[105,110]):
  Calls Tryz.prog 84 #[.pointer (some ⟨a,0,none⟩),.slice (some ⟨gw,0,none⟩) ws.length cw,s.val] w fun e w'=>e=.returned (.tuple #[(p.step ws s).1.val,.bool (p.step ws s).2])/\Below w.heap.size w w':=by
 have HR:Hid (p.step ws s=(p.now s (word ws 1) [119],true)):=by unfold Hid RP.step;rw[jb h0]
 have lv:=p.ox H.ways (word ws 1) (c:=[119]) (by simp);have kZ:(1:Int)<ws.length:=by omega
 have yV:=H.wide;rw[HR.out];unfold WS.val;rcases h0 with h0|h0
 all_goals
  go_enter Tryz.func84,Tryz.ntmps84
  go_upto_region 0 with fail
  go_cut [5,6,7] (fun v5 v6 v7 wc=>Kept w wc s/\v5=.pointer (some ⟨w.heap.size,0,none⟩)/\v6=.pointer (some ⟨w.heap.size+1,0,none⟩)/\v7=.bool false)
  case first=>
   go_wp2
   go_meet
   case rel=>exact⟨ef w s,rfl,rfl,rfl⟩
  case rest=>
   obtain⟨hK,rfl,rfl,rfl⟩:=hcut;have mY:=H.cell hK.bq 0 (by omega);rw[h0]at mY;have ko:=H.cell hK.bq 1 (by omega);have H0:Hid (_=_):=h0;clear h0;have cL:Kept w wc.drew s:=hK.below ((Below.refl _ _).drew);have hh:aT wc.drew w.heap.size:=⟨s,H.ways,cL.here⟩;have hv:=bt cL.here;have qx:=kB p a s (word ws 1) [119] wc.drew (H.prog.below cL.bq) H.ok H.ways (H.long 1) (by simp) pF H.aV;unfold WS.val at qx;go_wp2_with fail
   go_region_law (go_simp;go_at_call 88;refine qx.mono ?_;rintro e w1 ⟨rfl,av⟩;have US:aT w1 (w.heap.size+1):=⟨aH,bE,(cL.below av).zero⟩;have xS:df (p.now s (word ws 1) [119]).cells.toArray:=⟨_,lv,rfl⟩)
   all_goals go_wp2_with fail
   all_goals exact gZ (cL.below av).zero lv rfl rfl ⟨rfl,ay (cL.below av).bq (by omega) _ _⟩
end RefU
namespace RefV
open Go.RowKit Sq RefA RefO RefP RefQ RefR RefS RefT RefU Aux
attribute [local go_sem ↓] dc cG
set_option maxRecDepth 20000 in
set_option maxHeartbeats 4000000 in
theorem PN (p:RP)(a:Nat)(s:WS)(ws:List B)(gw cw:Nat)(w:World)(H:iT p a s ws gw w)(hlen:2<=ws.length)(pF:0<=p.find (ai (word ws 1)))(h0:word ws 0=[110,111,110,101]):
  Calls Tryz.prog 84 #[.pointer (some ⟨a,0,none⟩),.slice (some ⟨gw,0,none⟩) ws.length cw,s.val] w fun e w'=>e=.returned (.tuple #[(p.step ws s).1.val,.bool (p.step ws s).2])/\Below w.heap.size w w':=by
 have HR:Hid (p.step ws s=(p.now s (word ws 1) [110],true)):=by
  unfold Hid RP.step;simp[h0]
 have lv:=p.ox H.ways (word ws 1) (c:=[110]) (by simp);have mw:(1:Int)<ws.length:=by omega
 have yV:=H.wide;rw[HR.out];unfold WS.val
 skip
 all_goals
  go_enter Tryz.func84,Tryz.ntmps84
  go_upto_region 0 with fail
  go_cut [5,6,7] (fun v5 v6 v7 wc=>Kept w wc s/\v5=.pointer (some ⟨w.heap.size,0,none⟩)/\v6=.pointer (some ⟨w.heap.size+1,0,none⟩)/\v7=.bool false)
  case first=>
   go_wp2
   go_meet
   case rel=>exact⟨ef w s,rfl,rfl,rfl⟩
  case rest=>
   obtain⟨hK,rfl,rfl,rfl⟩:=hcut;have mY:=H.cell hK.bq 0 (by omega);rw[h0]at mY;have ko:=H.cell hK.bq 1 (by omega);have H0:Hid (_=_):=h0;clear h0;have cL:Kept w wc.drew s:=hK.below ((Below.refl _ _).drew);have hh:aT wc.drew w.heap.size:=⟨s,H.ways,cL.here⟩;have hv:=bt cL.here;have qx:=kB p a s (word ws 1) [110] wc.drew (H.prog.below cL.bq) H.ok H.ways (H.long 1) (by simp) pF H.aV;unfold WS.val at qx;go_wp2_with fail
   go_region_law (go_simp;go_at_call 88;refine qx.mono ?_;rintro e w1 ⟨rfl,av⟩;have US:aT w1 (w.heap.size+1):=⟨aH,bE,(cL.below av).zero⟩;have xS:df (p.now s (word ws 1) [110]).cells.toArray:=⟨_,lv,rfl⟩)
   all_goals go_wp2_with fail
   all_goals exact gZ (cL.below av).zero lv rfl rfl ⟨rfl,ay (cL.below av).bq (by omega) _ _⟩
set_option maxRecDepth 20000 in
set_option maxHeartbeats 4000000 in
theorem PM (p:RP)(a:Nat)(s:WS)(ws:List B)(gw cw:Nat)(w:World)(H:iT p a s ws gw w)(hlen:3<=ws.length)(pF:0<=p.find (ai (word ws 1)))(FC:0<=p.find (ai (word ws 2)))(h0:word ws 0=[108,111,97,100]):
  Calls Tryz.prog 84 #[.pointer (some ⟨a,0,none⟩),.slice (some ⟨gw,0,none⟩) ws.length cw,s.val] w fun e w'=>e=.returned (.tuple #[(p.step ws s).1.val,.bool (p.step ws s).2])/\Below w.heap.size w w':=by
 have HR:Hid (p.step ws s=(p.now s (word ws 1) [119],p.there s (word ws 2))):=by
  unfold Hid RP.step;simp[h0]
 have lv:=p.ox H.ways (word ws 1) (c:=[119]) (by simp);have mw:(1:Int)<ws.length:=by omega
 have GL:(2:Int)<ws.length:=by omega
 have yV:=H.wide;rw[HR.out];unfold WS.val
 skip
 all_goals
  go_enter Tryz.func84,Tryz.ntmps84
  go_upto_region 0 with fail
  go_cut [5,6,7] (fun v5 v6 v7 wc=>Kept w wc s/\v5=.pointer (some ⟨w.heap.size,0,none⟩)/\v6=.pointer (some ⟨w.heap.size+1,0,none⟩)/\v7=.bool false)
  case first=>
   go_wp2
   go_meet
   case rel=>exact⟨ef w s,rfl,rfl,rfl⟩
  case rest=>
   obtain⟨hK,rfl,rfl,rfl⟩:=hcut;have mY:=H.cell hK.bq 0 (by omega);rw[h0]at mY;have ko:=H.cell hK.bq 1 (by omega);have mZ:=H.cell hK.bq 2 (by omega);have H0:Hid (_=_):=h0;clear h0;go_upto_region 22 with fail
   go_cut [12] (fun v wc'=>Kept w wc' s/\v=.bool (p.there s (word ws 2)))
   case first=>
    have cL:Kept w wc.drew s:=hK.below ((Below.refl _ _).drew);have hh:aT wc.drew w.heap.size:=⟨s,H.ways,cL.here⟩;have hv:=bt cL.here;have HA:=iJ p a s (word ws 2) wc.drew (H.prog.below cL.bq) H.ok H.ways (H.long 2) FC H.aV;unfold WS.val at HA;go_region_law (go_simp;go_at_call 138;refine HA.mono ?_;rintro e w1 ⟨rfl,av⟩)
    all_goals go_wp2_with fail
    all_goals
     go_meet
     case rel=>exact⟨cL.below av,rfl⟩
   case rest=>
    obtain⟨AQ,rfl⟩:=hcut
    replace ko:=H.cell AQ.bq 1 (by omega)
    have cL:Kept w wc.drew s:=AQ.below ((Below.refl _ _).drew);have hh:aT wc.drew w.heap.size:=⟨s,H.ways,cL.here⟩;have hv:=bt cL.here;have qx:=kB p a s (word ws 1) [119] wc.drew (H.prog.below cL.bq) H.ok H.ways (H.long 1) (by simp) pF H.aV;unfold WS.val at qx;go_wp2_with fail
    go_region_law (go_simp;go_at_call 88;refine qx.mono ?_;rintro e w1 ⟨rfl,av⟩;have US:aT w1 (w.heap.size+1):=⟨aH,bE,(cL.below av).zero⟩;have xS:df (p.now s (word ws 1) [119]).cells.toArray:=⟨_,lv,rfl⟩)
    all_goals go_wp2_with fail
    all_goals exact gZ (cL.below av).zero lv rfl rfl ⟨rfl,ay (cL.below av).bq (by omega) _ _⟩
set_option maxRecDepth 20000 in
set_option maxHeartbeats 4000000 in
theorem step_drop (p:RP)(a:Nat)(s:WS)(ws:List B)(gw cw:Nat)(w:World)(H:iT p a s ws gw w)(hlen:2<=ws.length)(pF:0<=p.find (ai (word ws 1)))(h0:word ws 0=[100,114,111,112]):
  Calls Tryz.prog 84 #[.pointer (some ⟨a,0,none⟩),.slice (some ⟨gw,0,none⟩) ws.length cw,s.val] w fun e w'=>e=.returned (.tuple #[(p.step ws s).1.val,.bool (p.step ws s).2])/\Below w.heap.size w w':=by
 have HR:Hid (p.step ws s=(p.now s (word ws 1) (left (word ws 1)),cx p s (word ws 1))):=by
  unfold Hid RP.step;simp[h0]
 have sI:(left (word ws 1)).length<=1000:=by unfold left;split<;>simp
 have lv:=p.ox H.ways (word ws 1) sI;have mw:(1:Int)<ws.length:=by omega
 have yV:=H.wide;rw[HR.out];unfold WS.val
 skip
 all_goals
  go_enter Tryz.func84,Tryz.ntmps84
  go_upto_region 0 with fail
  go_cut [5,6,7] (fun v5 v6 v7 wc=>Kept w wc s/\v5=.pointer (some ⟨w.heap.size,0,none⟩)/\v6=.pointer (some ⟨w.heap.size+1,0,none⟩)/\v7=.bool false)
  case first=>
   go_wp2
   go_meet
   case rel=>exact⟨ef w s,rfl,rfl,rfl⟩
  case rest=>
   obtain⟨hK,rfl,rfl,rfl⟩:=hcut;have mY:=H.cell hK.bq 0 (by omega);rw[h0]at mY;have ko:=H.cell hK.bq 1 (by omega);have H0:Hid (_=_):=h0;clear h0;go_upto_region 31 with fail
   go_cut [15] (fun v wc'=>Kept w wc' s/\v=.bool (cx p s (word ws 1)))
   case first=>
    have cL:Kept w wc.drew s:=hK.below ((Below.refl _ _).drew);have hh:aT wc.drew w.heap.size:=⟨s,H.ways,cL.here⟩;have hv:=bt cL.here;have HA:=qe p a s (word ws 1) wc.drew (H.prog.below cL.bq) H.ok H.ways (H.long 1) pF H.aV;unfold WS.val at HA;go_region_law (go_simp;go_at_call 139;refine HA.mono ?_;rintro e w1 ⟨rfl,av⟩)
    all_goals go_wp2_with fail
    all_goals
     go_meet
     case rel=>exact⟨cL.below av,rfl⟩
   case rest=>
    obtain⟨AQ,rfl⟩:=hcut
    replace ko:=H.cell AQ.bq 1 (by omega)
    have cL:Kept w wc.drew s:=AQ.below ((Below.refl _ _).drew);have hh:aT wc.drew w.heap.size:=⟨s,H.ways,cL.here⟩;have hv:=bt cL.here;have qx:=kB p a s (word ws 1) (left (word ws 1)) wc.drew (H.prog.below cL.bq) H.ok H.ways (H.long 1) sI pF H.aV;unfold WS.val at qx;go_wp2_with fail
    go_region_law (first
     |(go_simp;go_at_call 140;refine(zQ _ _ (H.long 1)).mono ?_;rintro e w' ⟨rfl,rfl⟩)
     |(go_simp;go_at_call 88;refine qx.mono ?_;rintro e w1 ⟨rfl,av⟩;have US:aT w1 (w.heap.size+1):=⟨aH,bE,(cL.below av).zero⟩;have xS:df (p.now s (word ws 1) (left (word ws 1))).cells.toArray:=⟨_,lv,rfl⟩))
    all_goals go_wp2_with fail
    all_goals exact gZ (cL.below av).zero lv rfl rfl ⟨rfl,ay (cL.below av).bq (by omega) _ _⟩
end RefV
namespace RefW
open Go.RowKit Sq RefA RefO RefP RefQ RefR RefS RefT RefU Aux
attribute [local go_sem ↓] dc cG
set_option maxRecDepth 20000 in
set_option maxHeartbeats 4000000 in
theorem xk (p:RP)(a:Nat)(s:WS)(ws:List B)(gw cw:Nat)(w:World)(H:iT p a s ws gw w)(hlen:2<=ws.length)(pF:0<=p.find (ai (word ws 1)))(h0:word ws 0=[111,117,116]\/word ws 0=[105,102]\/word ws 0=[101,110,100]\/word ws 0=[109,97,116,99,104]):
  Calls Tryz.prog 84 #[.pointer (some ⟨a,0,none⟩),.slice (some ⟨gw,0,none⟩) ws.length cw,s.val] w fun e w'=>e=.returned (.tuple #[(p.step ws s).1.val,.bool (p.step ws s).2])/\Below w.heap.size w w':=by
 have HR:Hid (p.step ws s=(s,p.there s (word ws 1))):=by
  unfold Hid RP.step;rcases h0 with h0|h0|h0|h0<;>simp[h0]
 have mw:(1:Int)<ws.length:=by omega
 have yV:=H.wide;rw[HR.out];unfold WS.val;rcases h0 with h0|h0|h0|h0
 all_goals
  go_enter Tryz.func84,Tryz.ntmps84
  go_upto_region 0 with fail
  go_cut [5,6,7] (fun v5 v6 v7 wc=>Kept w wc s/\v5=.pointer (some ⟨w.heap.size,0,none⟩)/\v6=.pointer (some ⟨w.heap.size+1,0,none⟩)/\v7=.bool false)
  case first=>
   go_wp2
   go_meet
   case rel=>exact⟨ef w s,rfl,rfl,rfl⟩
  case rest=>
   obtain⟨hK,rfl,rfl,rfl⟩:=hcut;have mY:=H.cell hK.bq 0 (by omega);rw[h0]at mY;have ko:=H.cell hK.bq 1 (by omega);have H0:Hid (_=_):=h0;clear h0;have cL:Kept w wc.drew s:=hK.below ((Below.refl _ _).drew);have hh:aT wc.drew w.heap.size:=⟨s,H.ways,cL.here⟩;have hv:=bt cL.here;have xS:df s.cells.toArray:=⟨s,H.ways,rfl⟩;have HA:=iJ p a s (word ws 1) wc.drew (H.prog.below cL.bq) H.ok H.ways (H.long 1) pF H.aV;unfold WS.val at HA;go_wp2_with fail
   go_region_law (go_simp;go_at_call 138;refine HA.mono ?_;rintro e w1 ⟨rfl,av⟩;have US:aT w1 (w.heap.size+1):=⟨aH,bE,(cL.below av).zero⟩;have hh2:aT w1 w.heap.size:=⟨s,H.ways,(cL.below av).here⟩;have YX:=bt (cL.below av).here)
   all_goals go_wp2_with fail
   all_goals exact gZ (cL.below av).zero H.ways rfl rfl ⟨rfl,ay (cL.below av).bq (by omega) _ _⟩
end RefW
namespace RefX
open Go.RowKit Sq RefA RefO RefP RefQ RefR RefS RefT RefU Aux
attribute [local go_sem ↓] dc cG
set_option maxRecDepth 20000 in
set_option maxHeartbeats 4000000 in
theorem L6 (p:RP)(a:Nat)(s:WS)(ws:List B)(gw cw:Nat)(w:World)(H:iT p a s ws gw w)(hlen:3<=ws.length)(pF:0<=p.find (ai (word ws 1)))(FC:0<=p.find (ai (word ws 2)))(h0:word ws 0=[115,116,111,114,101]):
  Calls Tryz.prog 84 #[.pointer (some ⟨a,0,none⟩),.slice (some ⟨gw,0,none⟩) ws.length cw,s.val] w fun e w'=>e=.returned (.tuple #[(p.step ws s).1.val,.bool (p.step ws s).2])/\Below w.heap.size w w':=by
 have HR:Hid (p.step ws s=(s,p.there s (word ws 1)&&p.there s (word ws 2))):=by
  unfold Hid RP.step;simp[h0]
 have mw:(1:Int)<ws.length:=by omega
 have GL:(2:Int)<ws.length:=by omega
 have yV:=H.wide;rw[HR.out];unfold WS.val
 skip
 all_goals
  go_enter Tryz.func84,Tryz.ntmps84
  go_upto_region 0 with fail
  go_cut [5,6,7] (fun v5 v6 v7 wc=>Kept w wc s/\v5=.pointer (some ⟨w.heap.size,0,none⟩)/\v6=.pointer (some ⟨w.heap.size+1,0,none⟩)/\v7=.bool false)
  case first=>
   go_wp2
   go_meet
   case rel=>exact⟨ef w s,rfl,rfl,rfl⟩
  case rest=>
   obtain⟨hK,rfl,rfl,rfl⟩:=hcut;have mY:=H.cell hK.bq 0 (by omega);rw[h0]at mY;have ko:=H.cell hK.bq 1 (by omega);have mZ:=H.cell hK.bq 2 (by omega);have H0:Hid (_=_):=h0;clear h0;go_upto_region 25 with fail
   go_cut [13] (fun v wc'=>Kept w wc' s/\v=.bool (p.there s (word ws 1)))
   case first=>
    have cL:Kept w wc.drew s:=hK.below ((Below.refl _ _).drew);have hh:aT wc.drew w.heap.size:=⟨s,H.ways,cL.here⟩;have hv:=bt cL.here;have HA:=iJ p a s (word ws 1) wc.drew (H.prog.below cL.bq) H.ok H.ways (H.long 1) pF H.aV;unfold WS.val at HA;go_region_law (go_simp;go_at_call 138;refine HA.mono ?_;rintro e w1 ⟨rfl,av⟩)
    all_goals go_wp2_with fail
    all_goals
     go_meet
     case rel=>exact⟨cL.below av,rfl⟩
   case rest=>
    obtain⟨AQ,rfl⟩:=hcut
    replace mZ:=H.cell AQ.bq 2 (by omega)
    clear hK;go_upto_region 26 with fail
    go_cut [14] (fun v wc'=>Kept w wc' s/\v=.bool (p.there s (word ws 2)))
    case first=>
     have cL:Kept w wc.drew s:=AQ.below ((Below.refl _ _).drew);have hh:aT wc.drew w.heap.size:=⟨s,H.ways,cL.here⟩;have hv:=bt cL.here;have HA:=iJ p a s (word ws 2) wc.drew (H.prog.below cL.bq) H.ok H.ways (H.long 2) FC H.aV;unfold WS.val at HA;go_region_law (go_simp;go_at_call 138;refine HA.mono ?_;rintro e w1 ⟨rfl,av⟩)
     all_goals go_wp2_with fail
     all_goals
      go_meet
      case rel=>exact⟨cL.below av,rfl⟩
    case rest=>
     obtain⟨J7,rfl⟩:=hcut;have xS:df s.cells.toArray:=⟨s,H.ways,rfl⟩;have hh:aT wc w.heap.size:=⟨s,H.ways,J7.here⟩;have hz:aT wc (w.heap.size+1):=⟨aH,bE,J7.zero⟩;have hv:=bt J7.here;cases hb:p.there s (word ws 1)
     all_goals
      go_wp2
      all_goals exact gZ J7.zero H.ways rfl rfl ⟨by rw[hb];rfl,ay J7.bq (by omega) _ _⟩
end RefX
namespace RefY
open Go.RowKit Sq RefA RefO RefP RefQ RefR RefS RefT RefU Aux
attribute [local go_sem ↓] dc cG
set_option maxRecDepth 20000 in
set_option maxHeartbeats 4000000 in
theorem BO (p:RP)(a:Nat)(s:WS)(ws:List B)(gw cw:Nat)(w:World)(H:iT p a s ws gw w)(pF:0<=p.find (ai (word ws 1)))(FC:0<=p.find (ai (word ws 2)))(h0:word ws 0=[109,111,118,101]\/word ws 0=[115,111,109,101])(Kk:ws.length=3)(ht3:(RP.cJ p ws s).1.Ok):
  Calls Tryz.prog 84 #[.pointer (some ⟨a,0,none⟩),.slice (some ⟨gw,0,none⟩) ws.length cw,s.val] w fun e w'=>e=.returned (.tuple #[(p.step ws s).1.val,.bool (p.step ws s).2])/\Below w.heap.size w w':=by
 have HR:Hid (p.step ws s=((RP.cJ p ws s).1,(RP.cJ p ws s).2)):=by
  unfold Hid RP.step;rcases h0 with h0|h0<;>simp[h0]
 have mw:(1:Int)<ws.length:=by omega
 have GL:(2:Int)<ws.length:=by omega
 have yV:=H.wide;rw[HR.out];unfold WS.val;rw[Kk];rcases h0 with h0|h0
 all_goals
  go_enter Tryz.func84,Tryz.ntmps84
  go_upto_region 0 with fail
  go_cut [5,6,7] (fun v5 v6 v7 wc=>Kept w wc s/\v5=.pointer (some ⟨w.heap.size,0,none⟩)/\v6=.pointer (some ⟨w.heap.size+1,0,none⟩)/\v7=.bool false)
  case first=>
   go_wp2
   go_meet
   case rel=>exact⟨ef w s,rfl,rfl,rfl⟩
  case rest=>
   obtain⟨hK,rfl,rfl,rfl⟩:=hcut;have mY:=H.cell hK.bq 0 (by omega);rw[h0]at mY;have ko:=H.cell hK.bq 1 (by omega);have mZ:=H.cell hK.bq 2 (by omega);have H0:Hid (_=_):=h0;clear h0;have xS:df (RP.cJ p ws s).1.cells.toArray:=⟨_,ht3,rfl⟩;have hh:aT wc w.heap.size:=⟨s,H.ways,hK.here⟩;have hv:=bt hK.here;have HA:=PW p a s ws gw cw wc (H.prog.below hK.bq) H.ok H.ways H.aV (jK H.row hK.bq.size) (fun j hj=>H.cell hK.bq j (by omega)) H.long pF FC;unfold WS.val at HA;go_wp2_with (go_at_call 141;refine HA.mono ?_;rintro e w1 ⟨rfl,av⟩;have hz:aT w1 (w.heap.size+1):=⟨aH,bE,(hK.below av).zero⟩)
   exact gZ (hK.below av).zero ht3 rfl rfl ⟨rfl,ay (hK.below av).bq (by omega) _ _⟩
end RefY
namespace RefZ
open Go.RowKit Sq RefA RefO RefP RefQ RefR RefS RefT RefU Aux
attribute [local go_sem ↓] dc cG
attribute [local go_sem ↓] qd oz
attribute [local go_sem] iG gv lL lR iI
set_option maxRecDepth 20000 in
set_option maxHeartbeats 4000000 in
theorem Tr (p:RP)(a:Nat)(s:WS)(ws:List B)(gw cw:Nat)(w:World)(H:iT p a s ws gw w)(hlen:3<=ws.length)(pF:0<=p.find (ai (word ws 1)))(FC:0<=p.find (ai (word ws 2)))(h0:word ws 0=[110,101,119]):
  Calls Tryz.prog 84 #[.pointer (some ⟨a,0,none⟩),.slice (some ⟨gw,0,none⟩) ws.length cw,s.val] w fun e w'=>e=.returned (.tuple #[(p.step ws s).1.val,.bool (p.step ws s).2])/\Below w.heap.size w w':=by
 have HR:Hid (p.step ws s=(p.now s (word ws 1) [119],p.there s (word ws 2)&&cx p s (word ws 1))):=by
  unfold Hid RP.step;simp[h0]
 have lv:=p.ox H.ways (word ws 1) (c:=[119]) (by simp);have mw:(1:Int)<ws.length:=by omega
 have GL:(2:Int)<ws.length:=by omega
 have yV:=H.wide;rw[HR.out];unfold WS.val
 skip
 all_goals
  go_enter Tryz.func84,Tryz.ntmps84
  go_upto_region 0 with fail
  go_cut [5,6,7] (fun v5 v6 v7 wc=>Kept w wc s/\v5=.pointer (some ⟨w.heap.size,0,none⟩)/\v6=.pointer (some ⟨w.heap.size+1,0,none⟩)/\v7=.bool false)
  case first=>
   go_wp2
   go_meet
   case rel=>exact⟨ef w s,rfl,rfl,rfl⟩
  case rest=>
   obtain⟨hK,rfl,rfl,rfl⟩:=hcut;have mY:=H.cell hK.bq 0 (by omega);rw[h0]at mY;have ko:=H.cell hK.bq 1 (by omega);have mZ:=H.cell hK.bq 2 (by omega);have H0:Hid (_=_):=h0;clear h0;go_upto_region 18 with fail
   go_cut [10] (fun v wc'=>Kept w wc' s/\v=.bool (p.there s (word ws 2)))
   case first=>
    have cL:Kept w wc.drew s:=hK.below ((Below.refl _ _).drew);have hh:aT wc.drew w.heap.size:=⟨s,H.ways,cL.here⟩;have hv:=bt cL.here;have HA:=iJ p a s (word ws 2) wc.drew (H.prog.below cL.bq) H.ok H.ways (H.long 2) FC H.aV;unfold WS.val at HA;go_region_law (go_simp;go_at_call 138;refine HA.mono ?_;rintro e w1 ⟨rfl,av⟩)
    all_goals go_wp2_with fail
    all_goals
     go_meet
     case rel=>exact⟨cL.below av,rfl⟩
   case rest=>
    obtain⟨AQ,rfl⟩:=hcut
    replace ko:=H.cell AQ.bq 1 (by omega)
    clear hK;go_upto_region 19 with fail
    go_cut [11] (fun v wc'=>Kept w wc' s/\v=.bool (cx p s (word ws 1)))
    case first=>
     have cL:Kept w wc.drew s:=AQ.below ((Below.refl _ _).drew);have hh:aT wc.drew w.heap.size:=⟨s,H.ways,cL.here⟩;have hv:=bt cL.here;have HA:=qe p a s (word ws 1) wc.drew (H.prog.below cL.bq) H.ok H.ways (H.long 1) pF H.aV;unfold WS.val at HA;go_region_law (go_simp;go_at_call 139;refine HA.mono ?_;rintro e w1 ⟨rfl,av⟩)
     all_goals go_wp2_with fail
     all_goals
      go_meet
      case rel=>exact⟨cL.below av,rfl⟩
    case rest=>
     obtain⟨J7,rfl⟩:=hcut
     replace ko:=H.cell J7.bq 1 (by omega)
     clear AQ;have cL:Kept w wc.drew s:=J7.below ((Below.refl _ _).drew);have hh:aT wc.drew w.heap.size:=⟨s,H.ways,cL.here⟩;have hv:=bt cL.here;have qx:=kB p a s (word ws 1) [119] wc.drew (H.prog.below cL.bq) H.ok H.ways (H.long 1) (by simp) pF H.aV;unfold WS.val at qx;cases hb:p.there s (word ws 2)
     all_goals
      have HB:Hid (_=_):=hb;clear hb;go_wp2_with fail
      first|go_region_with (go_at_call 88;refine qx.mono ?_;rintro e w1 ⟨rfl,av⟩;have US:aT w1 (w.heap.size+1):=⟨aH,bE,(cL.below av).zero⟩;have xS:df (p.now s (word ws 1) [119]).cells.toArray:=⟨_,lv,rfl⟩)|skip
      all_goals go_wp2_with fail
      all_goals exact gZ (cL.below av).zero lv rfl rfl ⟨by rw[HB.out];rfl,ay (cL.below av).bq (by omega) _ _⟩
end RefZ
namespace RefZa
open Go.RowKit Sq RefA RefO RefP RefQ RefR RefS RefT RefU Aux
attribute [local go_sem ↓] dc cG
attribute [local go_sem ↓] qd oz
attribute [local go_sem] iG gv lL lR iI
set_option maxRecDepth 20000 in
set_option maxHeartbeats 4000000 in
theorem p8 (p:RP)(a:Nat)(s:WS)(ws:List B)(gw cw:Nat)(w:World)(H:iT p a s ws gw w)(hlen:4<=ws.length)(pF:0<=p.find (ai (word ws 1)))(FC:0<=p.find (ai (word ws 2)))(hf3:0<=p.find (ai (word ws 3)))(h0:word ws 0=[97,100,100]\/word ws 0=[115,117,98]\/word ws 0=[109,117,108]\/word ws 0=[100,105,118]):
  Calls Tryz.prog 84 #[.pointer (some ⟨a,0,none⟩),.slice (some ⟨gw,0,none⟩) ws.length cw,s.val] w fun e w'=>e=.returned (.tuple #[(p.step ws s).1.val,.bool (p.step ws s).2])/\Below w.heap.size w w':=by
 have HR:Hid (p.step ws s=(p.now s (word ws 1) [119],p.there s (word ws 2)&&p.there s (word ws 3))):=by
  unfold Hid RP.step;rcases h0 with h0|h0|h0|h0<;>simp[h0]
 have lv:=p.ox H.ways (word ws 1) (c:=[119]) (by simp);have mw:(1:Int)<ws.length:=by omega
 have GL:(2:Int)<ws.length:=by omega
 have hln3:(3:Int)<ws.length:=by omega
 have yV:=H.wide;rw[HR.out];unfold WS.val;rcases h0 with h0|h0|h0|h0
 all_goals
  go_enter Tryz.func84,Tryz.ntmps84
  go_upto_region 0 with fail
  go_cut [5,6,7] (fun v5 v6 v7 wc=>Kept w wc s/\v5=.pointer (some ⟨w.heap.size,0,none⟩)/\v6=.pointer (some ⟨w.heap.size+1,0,none⟩)/\v7=.bool false)
  case first=>
   go_wp2
   go_meet
   case rel=>exact⟨ef w s,rfl,rfl,rfl⟩
  case rest=>
   obtain⟨hK,rfl,rfl,rfl⟩:=hcut;have mY:=H.cell hK.bq 0 (by omega);rw[h0]at mY;have ko:=H.cell hK.bq 1 (by omega);have mZ:=H.cell hK.bq 2 (by omega);have hc3:=H.cell hK.bq 3 (by omega);have H0:Hid (_=_):=h0;clear h0;go_upto_region 9 with fail
   go_cut [8] (fun v wc'=>Kept w wc' s/\v=.bool (p.there s (word ws 2)))
   case first=>
    have cL:Kept w wc.drew s:=hK.below ((Below.refl _ _).drew);have hh:aT wc.drew w.heap.size:=⟨s,H.ways,cL.here⟩;have hv:=bt cL.here;have HA:=iJ p a s (word ws 2) wc.drew (H.prog.below cL.bq) H.ok H.ways (H.long 2) FC H.aV;unfold WS.val at HA;go_region_law (go_simp;go_at_call 138;refine HA.mono ?_;rintro e w1 ⟨rfl,av⟩)
    all_goals go_wp2_with fail
    all_goals
     go_meet
     case rel=>exact⟨cL.below av,rfl⟩
   case rest=>
    obtain⟨AQ,rfl⟩:=hcut
    replace ko:=H.cell AQ.bq 1 (by omega)
    replace hc3:=H.cell AQ.bq 3 (by omega)
    clear hK;go_upto_region 10 with fail
    go_cut [9] (fun v wc'=>Kept w wc' s/\v=.bool (p.there s (word ws 3)))
    case first=>
     have cL:Kept w wc.drew s:=AQ.below ((Below.refl _ _).drew);have hh:aT wc.drew w.heap.size:=⟨s,H.ways,cL.here⟩;have hv:=bt cL.here;have HA:=iJ p a s (word ws 3) wc.drew (H.prog.below cL.bq) H.ok H.ways (H.long 3) hf3 H.aV;unfold WS.val at HA;go_region_law (go_simp;go_at_call 138;refine HA.mono ?_;rintro e w1 ⟨rfl,av⟩)
     all_goals go_wp2_with fail
     all_goals
      go_meet
      case rel=>exact⟨cL.below av,rfl⟩
    case rest=>
     obtain⟨J7,rfl⟩:=hcut
     replace ko:=H.cell J7.bq 1 (by omega)
     clear AQ;have cL:Kept w wc.drew s:=J7.below ((Below.refl _ _).drew);have hh:aT wc.drew w.heap.size:=⟨s,H.ways,cL.here⟩;have hv:=bt cL.here;have qx:=kB p a s (word ws 1) [119] wc.drew (H.prog.below cL.bq) H.ok H.ways (H.long 1) (by simp) pF H.aV;unfold WS.val at qx;cases hb:p.there s (word ws 2)
     all_goals
      have HB:Hid (_=_):=hb;clear hb;go_wp2_with fail
      first|go_region_with (go_at_call 88;refine qx.mono ?_;rintro e w1 ⟨rfl,av⟩;have US:aT w1 (w.heap.size+1):=⟨aH,bE,(cL.below av).zero⟩;have xS:df (p.now s (word ws 1) [119]).cells.toArray:=⟨_,lv,rfl⟩)|skip
      all_goals go_wp2_with fail
      all_goals exact gZ (cL.below av).zero lv rfl rfl ⟨by rw[HB.out];rfl,ay (cL.below av).bq (by omega) _ _⟩
end RefZa
namespace RefZb
open Go.RowKit Sq RefA RefO RefP RefQ RefR RefS RefT RefU Aux
attribute [local go_sem ↓] dc cG
attribute [local go_sem ↓] qd oz
attribute [local go_sem] iG gv lL lR iI
set_option maxRecDepth 20000 in
set_option maxHeartbeats 4000000 in
theorem tH (p:RP)(a:Nat)(s:WS)(ws:List B)(gw cw:Nat)(w:World)(H:iT p a s ws gw w)(hlen:1<=ws.length)(h0:word ws 0=[103,111,116,111]\/word ws 0=[98,108,111,99,107]\/word ws 0=[108,101,116]):
  Calls Tryz.prog 84 #[.pointer (some ⟨a,0,none⟩),.slice (some ⟨gw,0,none⟩) ws.length cw,s.val] w fun e w'=>e=.returned (.tuple #[(p.step ws s).1.val,.bool (p.step ws s).2])/\Below w.heap.size w w':=by
 have HR:Hid (p.step ws s=(s,true)):=by
  unfold Hid RP.step;rcases h0 with h0|h0|h0<;>simp[h0]
 have yV:=H.wide;rw[HR.out];unfold WS.val;rcases h0 with h0|h0|h0
 all_goals
  go_enter Tryz.func84,Tryz.ntmps84
  go_upto_region 0 with fail
  go_cut [5,6,7] (fun v5 v6 v7 wc=>Kept w wc s/\v5=.pointer (some ⟨w.heap.size,0,none⟩)/\v6=.pointer (some ⟨w.heap.size+1,0,none⟩)/\v7=.bool false)
  case first=>
   go_wp2
   go_meet
   case rel=>exact⟨ef w s,rfl,rfl,rfl⟩
  case rest=>
   obtain⟨hK,rfl,rfl,rfl⟩:=hcut;have mY:=H.cell hK.bq 0 (by omega);rw[h0]at mY;have H0:Hid (_=_):=h0;clear h0;have xS:df s.cells.toArray:=⟨s,H.ways,rfl⟩;have hh:aT wc w.heap.size:=⟨s,H.ways,hK.here⟩;have hz:aT wc (w.heap.size+1):=⟨aH,bE,hK.zero⟩;have hv:=bt hK.here;go_wp2
   all_goals exact gZ hK.zero H.ways rfl rfl ⟨rfl,ay hK.bq (by omega) _ _⟩
end RefZb
end Go.Proofs.YtmlgajhhnojdjaaGreatDoor

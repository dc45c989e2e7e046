import Derived.Test.YtmlgajhhnojdjaaGreatDoorRAZ
namespace Go.Proofs.YtmlgajhhnojdjaaGreatDoor
namespace RefZb
open Go.RowKit Sq RefA RefO RefP RefQ RefR RefS RefT RefU Aux
attribute [local go_sem ↓] dd cH
attribute [local go_sem ↓] qe oA
attribute [local go_sem] iH gx lM lS iJ
set_option maxRecDepth 20000 in
set_option maxHeartbeats 4000000 in
theorem tI (p:RP)(a:Nat)(s:WS)(ws:List B)(gw cw:Nat)(w:World)(H:iU p a s ws gw w)(hlen:1<=ws.length)(h0:word ws 0=[103,111,116,111]\/word ws 0=[98,108,111,99,107]\/word ws 0=[108,101,116]):
  Calls Tryz.prog 84 #[.pointer (some ⟨a,0,none⟩),.slice (some ⟨gw,0,none⟩) ws.length cw,s.val] w fun e w'=>e=.returned (.tuple #[(p.step ws s).1.val,.bool (p.step ws s).2])/\Below w.heap.size w w':=by
 have HR:Hid (p.step ws s=(s,true)):=by
  unfold Hid RP.step;rcases h0 with h0|h0|h0<;>simp[h0]
 have yW:=H.wide;rw[HR.out];unfold WS.val;rcases h0 with h0|h0|h0
 all_goals
  go_enter Tryz.func84,Tryz.ntmps84
  go_upto_region 0 with fail
  go_cut [5,6,7] (fun v5 v6 v7 wc=>Kept w wc s/\v5=.pointer (some ⟨w.heap.size,0,none⟩)/\v6=.pointer (some ⟨w.heap.size+1,0,none⟩)/\v7=.bool false)
  case first=>
   go_wp2
   go_meet
   case rel=>exact⟨eg w s,rfl,rfl,rfl⟩
  case rest=>
   obtain⟨hK,rfl,rfl,rfl⟩:=hcut;have mZ:=H.cell hK.br 0 (by omega);rw[h0]at mZ;have H0:Hid (_=_):=h0;clear h0;have xT:dh s.cells.toArray:=⟨s,H.ways,rfl⟩;have hh:aU wc w.heap.size:=⟨s,H.ways,hK.here⟩;have hz:aU wc (w.heap.size+1):=⟨aI,bF,hK.zero⟩;have hv:=bu hK.here;go_wp2
   all_goals exact ia hK.zero H.ways rfl rfl ⟨rfl,az hK.br (by omega) _ _⟩
end RefZb
namespace RefZd
open Go.RowKit Sq RefT RefU RefV RefW RefX RefY RefZ RefZa RefZb Aux
theorem MO {p:RP}{i:Nat}{f:B}(N:p.names i=true)(hl:¬word (p.line i) 0=cx)(hb:(behind (word (p.line i) 0) p.raw).1=f)(k:Nat)(hk:k<f.length)(hc:f[k]∈[(105:UInt8),112,109,111,100]):0<=p.find (aj (word (p.line i) (k+1))):=by
 subst hb;exact RP.iw N hl k hk hc
theorem Lg {raw:Bool}{ws:List B}(h:dJ raw ws=true)(hl:¬word ws 0=cx)(hb:¬word ws 0=aR):(behind (word ws 0) raw).2=true/\ws.length=(behind (word ws 0) raw).1.length+1:=by
 unfold dJ at h;rw[ja hl,ja hb]at h;simp only[Bool.and_eq_true,decide_eq_true_eq]at h;exact h.1
def l9:List B:=[[115,101,116],[105,110],[97,100,100],[115,117,98],[109,117,108],[100,105,118],[111,117,116],[105,102],[101,110,100],[109,97,116,99,104],[110,101,119],[108,111,97,100],[115,116,111,114,101],[110,111,110,101],[100,114,111,112],[109,111,118,101],[115,111,109,101],[103,111,116,111]]
theorem pq (w:B)(h:(behind w false).2=true):w∈l9:=by
 by_cases hn:w∈l9
 ·exact hn
 ·exfalso;simp only[l9,List.mem_cons,List.not_mem_nil,or_false,not_or]at hn;obtain⟨h1,h2,h3,h4,h5,h6,h7,h8,h9,V6,oM,cg,Eo,B6,sv,YE,YF,sw⟩:=hn;unfold behind at h;simp only[h1,h2,h3,h4,h5,h6,h7,h8,h9,V6,oM,cg,Eo,B6,sv,YE,YF,sw,or_self,if_false]at h
  repeat (split at h<;>first|(cases h;done)|skip)
theorem Tr (p:RP)(a:Nat)(s:WS)(i:Nat)(gw cw:Nat)(w:World)(H:iU p a s (p.line i) gw w)(hF:dJ false (p.line i)=true)(hN:p.names i=true)(hr:p.raw=false)(hs:s.dT):
  Calls Tryz.prog 84 #[.pointer (some ⟨a,0,none⟩),.slice (some ⟨gw,0,none⟩) (p.line i).length cw,s.val] w fun e w'=>e=.returned (.tuple #[(p.step (p.line i) s).1.val,.bool (p.step (p.line i) s).2])/\Below w.heap.size w w':=by
 by_cases hl:word (p.line i) 0=cx
 ·exact tI p a s _ gw cw w H H.one (.inr (.inr hl))
 by_cases hb:word (p.line i) 0=aR
 ·exact tI p a s _ gw cw w H H.one (.inr (.inl hb))
 obtain⟨h1,h2⟩:=Lg hF hl hb;have hB:=fun f (e:(behind (word (p.line i) 0) false).1=f)=> @MO p i f hN hl (by rw[hr];exact e)
 have hm:=pq _ h1;simp only[l9,List.mem_cons,List.not_mem_nil,or_false]at hm;rcases hm with h|h|h|h|h|h|h|h|h|h|h|h|h|h|h|h|h|h
 ·have hf:(behind (word (p.line i) 0) false).1=[105,110]:=by rw[h];rfl
  exact I4 p a s _ gw cw w H (by rw[h2,hf];decide) (hB _ hf 0 (by simp) (by simp)) (.inl h)
 ·have hf:(behind (word (p.line i) 0) false).1=[105]:=by rw[h];rfl
  exact I4 p a s _ gw cw w H (by rw[h2,hf];decide) (hB _ hf 0 (by simp) (by simp)) (.inr (h))
 ·have hf:(behind (word (p.line i) 0) false).1=[105,105,105]:=by rw[h];rfl
  exact p9 p a s _ gw cw w H (by rw[h2,hf];decide) (hB _ hf 0 (by simp) (by simp)) (hB _ hf 1 (by simp) (by simp)) (hB _ hf 2 (by simp) (by simp)) (.inl h)
 ·have hf:(behind (word (p.line i) 0) false).1=[105,105,105]:=by rw[h];rfl
  exact p9 p a s _ gw cw w H (by rw[h2,hf];decide) (hB _ hf 0 (by simp) (by simp)) (hB _ hf 1 (by simp) (by simp)) (hB _ hf 2 (by simp) (by simp)) (.inr (.inl h))
 ·have hf:(behind (word (p.line i) 0) false).1=[105,105,105]:=by rw[h];rfl
  exact p9 p a s _ gw cw w H (by rw[h2,hf];decide) (hB _ hf 0 (by simp) (by simp)) (hB _ hf 1 (by simp) (by simp)) (hB _ hf 2 (by simp) (by simp)) (.inr (.inr (.inl h)))
 ·have hf:(behind (word (p.line i) 0) false).1=[105,105,105]:=by rw[h];rfl
  exact p9 p a s _ gw cw w H (by rw[h2,hf];decide) (hB _ hf 0 (by simp) (by simp)) (hB _ hf 1 (by simp) (by simp)) (hB _ hf 2 (by simp) (by simp)) (.inr (.inr (.inr (h))))
 ·have hf:(behind (word (p.line i) 0) false).1=[105]:=by rw[h];rfl
  exact xl p a s _ gw cw w H (by rw[h2,hf];decide) (hB _ hf 0 (by simp) (by simp)) (.inl h)
 ·have hf:(behind (word (p.line i) 0) false).1=[105,78,78]:=by rw[h];rfl
  exact xl p a s _ gw cw w H (by rw[h2,hf];decide) (hB _ hf 0 (by simp) (by simp)) (.inr (.inl h))
 ·have hf:(behind (word (p.line i) 0) false).1=[105]:=by rw[h];rfl
  exact xl p a s _ gw cw w H (by rw[h2,hf];decide) (hB _ hf 0 (by simp) (by simp)) (.inr (.inr (.inl h)))
 ·have hf:(behind (word (p.line i) 0) false).1=[111,78,78]:=by rw[h];rfl
  exact xl p a s _ gw cw w H (by rw[h2,hf];decide) (hB _ hf 0 (by simp) (by simp)) (.inr (.inr (.inr (h))))
 ·have hf:(behind (word (p.line i) 0) false).1=[112,105]:=by rw[h];rfl
  exact Ts p a s _ gw cw w H (by rw[h2,hf];decide) (hB _ hf 0 (by simp) (by simp)) (hB _ hf 1 (by simp) (by simp)) (h)
 ·have hf:(behind (word (p.line i) 0) false).1=[105,112]:=by rw[h];rfl
  exact PN p a s _ gw cw w H (by rw[h2,hf];decide) (hB _ hf 0 (by simp) (by simp)) (hB _ hf 1 (by simp) (by simp)) (h)
 ·have hf:(behind (word (p.line i) 0) false).1=[112,105]:=by rw[h];rfl
  exact L7 p a s _ gw cw w H (by rw[h2,hf];decide) (hB _ hf 0 (by simp) (by simp)) (hB _ hf 1 (by simp) (by simp)) (h)
 ·have hf:(behind (word (p.line i) 0) false).1=[111]:=by rw[h];rfl
  exact PO p a s _ gw cw w H (by rw[h2,hf];decide) (hB _ hf 0 (by simp) (by simp)) (h)
 ·have hf:(behind (word (p.line i) 0) false).1=[100]:=by rw[h];rfl
  exact step_drop p a s _ gw cw w H (by rw[h2,hf];decide) (hB _ hf 0 (by simp) (by simp)) (h)
 ·have hf:(behind (word (p.line i) 0) false).1=[109,109]:=by rw[h];rfl
  exact BP p a s _ gw cw w H (hB _ hf 0 (by simp) (by simp)) (hB _ hf 1 (by simp) (by simp)) (.inl h) (by rw[h2,hf];rfl) (p.yo hs _).ok
 ·have hf:(behind (word (p.line i) 0) false).1=[111,112]:=by rw[h];rfl
  exact BP p a s _ gw cw w H (hB _ hf 0 (by simp) (by simp)) (hB _ hf 1 (by simp) (by simp)) (.inr (h)) (by rw[h2,hf];rfl) (p.yo hs _).ok
 ·have hf:(behind (word (p.line i) 0) false).1=[78]:=by rw[h];rfl
  exact tI p a s _ gw cw w H (by rw[h2,hf];decide) (.inl h)
end RefZd
namespace RefZc
open Go.RowKit Sq RefA RefO RefR Aux
attribute [local go_sem ↓] dd cH
theorem aB.Ti {w:World}{b:Nat}{s:WS}(h:aB w b s)(k:Bool):aB (w.setCell ⟨b,0,none⟩ (.bool k)) b {s with known:=k}:=by
 unfold aB;rw[Go.Proofs.YtmlgajhhnojdjaaGreatDoor.Aux.heap_setCell_same h];congr 2
structure Ns (w wr:World)(s o:WS):Prop where
 one:aB wr w.heap.size s
 other:aB wr (w.heap.size+1) o
 zero:aB wr (w.heap.size+2) aI
 br:Below w.heap.size w wr
theorem Ns.below {w wr w':World}{s o:WS}(h:Ns w wr s o)(hb:Below wr.heap.size wr w'):Ns w w' s o:=
 ⟨h.one.below hb,h.other.below hb,h.zero.below hb,h.br.trans (hb.mono h.br.size)⟩
theorem DS (w:World)(s o:WS):Ns w (((w.alloc (.cells s.cells.toArray 155)).alloc (.cells o.cells.toArray 155)).alloc (.cells aI.cells.toArray 155)) s o:=by
 have h1:=aB.new w s;have h2:=aB.new (w.alloc (.cells s.cells.toArray 155)) o;have h3:=aB.new ((w.alloc (.cells s.cells.toArray 155)).alloc (.cells o.cells.toArray 155)) aI;refine⟨(h1.below (bG _ _)).below (bG _ _),?_,?_,((bG w _).alloc (by simp) _).alloc (by simp;omega) _⟩
 ·have:=h2.below (bG _ (.cells aI.cells.toArray 155));simpa using this
 ·simpa using h3
theorem Ns.set {w wr:World}{s o:WS}(h:Ns w wr s o)(k:Nat)(c:B):Ns w (wr.setCell ⟨w.heap.size,1+k,none⟩ (.string (bs c))) (WS.set s k c) o:=
 ⟨h.one.set k c,h.other.setOther (by simp) _,h.zero.setOther (by simp) _,h.br.setCell (jC _) _⟩
theorem CR {tmps:Array Value}{w wr:World}{t:WS}{b:Bool}{R:Ending->World->Prop}(hK:aB wr (w.heap.size+2) aI)(ht:t.Ok)(h6:tmps.getD 4 undef=.pointer (some ⟨w.heap.size+2,0,none⟩))(h7:tmps.getD 5 undef=.bool b)
  (h:R (.returned (.tuple #[t.val,.bool b])) (wr.setCells (w.heap.size+2) 0 t.cells)):bodyPost Tryz.prog Tryz.f86 R Exit.ret {tmps:=tmps,defers:=[]} (wr.setCells (w.heap.size+2) 0 t.cells):=by
 refine bodyPost_ret (eG Tryz.results86 tmps _ _ (w.heap.size+2) t.cells _ h6 (hK.store bF ht).range Tryz.underlying155 rfl (eD ht)) rfl ?_;rw[h7];exact h
set_option maxRecDepth 20000 in
set_option maxHeartbeats 4000000 in
theorem Nx (s o:WS)(w:World)(ho:o.Ok)(hk:s.known=false):
  Calls Tryz.prog 86 #[s.val,o.val] w fun e w'=>e=.returned (.tuple #[(s.add o).1.val,.bool (s.add o).2])/\Below w.heap.size w w':=by
 have HR:Hid (s.add o=({o with known:=true},true)):=by unfold Hid WS.add;rw[hk];rfl
 have ho':WS.Ok {o with known:=true}:=⟨ho.len,ho.fe⟩;rw[HR.out];unfold WS.val;go_enter Tryz.func86,Tryz.ntmps86
 go_upto_region 0 with fail
 go_cut [2,3,4] (fun v2 v3 v4 wc=>Ns w wc s o/\v2=.pointer (some ⟨w.heap.size,0,none⟩)/\v3=.pointer (some ⟨w.heap.size+1,0,none⟩)/\v4=.pointer (some ⟨w.heap.size+2,0,none⟩))
 case first=>
  go_wp2
  go_meet
  case rel=>exact⟨DS w s o,rfl,rfl,rfl⟩
 case rest=>
  obtain⟨hT,rfl,rfl,rfl⟩:=hcut;have zL:=hT.one.known;rw[hk]at zL;have hfr:=hT.other.frozen 0;have kq:=hT.other.known;have hsk:=aB.Ti hT.other true;have hz:=hT.zero.setOther (a:=⟨w.heap.size+1,0,none⟩) (by simp) (.bool true);have hh:aU (wc.setCell ⟨w.heap.size+1,0,none⟩ (.bool true)) (w.heap.size+1):=⟨_,ho',hsk⟩;have hhz:aU (wc.setCell ⟨w.heap.size+1,0,none⟩ (.bool true)) (w.heap.size+2):=⟨_,bF,hz⟩;have hv:=bu hsk;have xT:dh (WS.cells {o with known:=true}).toArray:=⟨_,ho',rfl⟩;go_wp2
  all_goals exact CR hz ho' rfl rfl ⟨rfl,az (hT.br.setCell (by simp) _) (by omega) _ _⟩
set_option maxRecDepth 20000 in
set_option maxHeartbeats 4000000 in
theorem Ny (s o:WS)(w:World)(hs:s.dT)(ho:o.dT)(hk:s.known=true):
  Calls Tryz.prog 86 #[s.val,o.val] w fun e w'=>e=.returned (.tuple #[(s.add o).1.val,.bool (s.add o).2])/\Below w.heap.size w w':=by
 have HR:Hid (s.add o=eW o (24-0) 0 s false):=by unfold Hid WS.add;rw[hk];rfl
 have HO:Hid (o.dT):=ho;have HF:Hid (s.dT):=hs;have HU:Hid ((s.add o).1.dT):=WS.zA hs ho;unfold WS.val;clear ho hs;go_enter Tryz.func86,Tryz.ntmps86
 go_upto_region 0 with fail
 go_cut [2,3,4] (fun v2 v3 v4 wc=>Ns w wc s o/\v2=.pointer (some ⟨w.heap.size,0,none⟩)/\v3=.pointer (some ⟨w.heap.size+1,0,none⟩)/\v4=.pointer (some ⟨w.heap.size+2,0,none⟩))
 case first=>
  go_wp2
  go_meet
  case rel=>exact⟨DS w s o,rfl,rfl,rfl⟩
 case rest=>
  obtain⟨hT,rfl,rfl,rfl⟩:=hcut;have zL:=hT.one.known;rw[hk]at zL;go_wp2
  clear zL;go_loopg [6,7] (24) (fun g vm vi wr=>∃(i:Nat) (si:WS) (m:Bool),i<=24/\g+i=24/\vi=.int .i64 i/\vm=.bool m/\Ns w wr si o/\Hid (si.dT)/\Hid (s.add o=eW o (24-i) i si m))
  case atStart=>exact⟨0,s,false,by omega,rfl,rfl,rfl,hT,HF,HR⟩
  case round=>
   clear hT HR;obtain⟨i,si,m,hi,YO,rfl,rfl,hT,Y7,HI⟩:=hrel;by_cases aL:i<24
   ·have HS:Hid (_=_):=FP o i si m aL;have XE:(i:Int)<24:=by omega
    obtain⟨L,hL⟩:∃L,L=(o.at i).length:=⟨_,rfl⟩;have HLn:Hid (L=(o.at i).length):=hL;have hL4:L<=4:=by rw[hL];exact(HO.out.fe i).length
    clear hL;go_wp2
    go_loopg [6,8,9] (L) (fun g vm vk v9 wr=>∃(k:Nat) (x:B) (n:Bool),k<=L/\g+k=L/\vk=.int .i64 k/\vm=.bool n/\Ns w wr (WS.set si i x) o/\Hid (dT x)/\Hid (eV (si.at i) m (o.at i)=eV x n ((o.at i).drop k)))
    case atStart=>exact⟨0,si.at i,m,by omega,by omega,rfl,rfl,by rw[WS.IY _ _ (by rw[Y7.out.len];omega)];exact hT,Y7.out.fe i,rfl⟩
    case round=>
     clear hT;obtain⟨k,x,n,GK,GI,rfl,rfl,hT,HX,HJ⟩:=hrel;have hfi:=Y7.out.set i HX.out;have Er:(WS.set si i x).at i=x:=by rw[WS.D2 _ _ _ _ (by rw[Y7.out.len];omega),jb rfl]
     have kq:=hT.one.cell hfi.ok i aL;rw[Er]at kq;have oa:=hT.other.cell HO.out.ok i aL;by_cases hkL:k<L
     ·have tN:k<(o.at i).length:=by rw[<-HLn.out];exact hkL
      have hkb:k<(bs (o.at i)).size:=by simpa using tN
      have ZC:Ns w wr.drew (WS.set si i x) o:=hT.below ((Below.refl _ _).drew);have HA:=TL (bs x) (bs (o.at i))[k] wr.drew (by have:=HX.out.length;simp;omega);rw[aE]at HA;have HL:Hid (dT (fT x (o.at i)[k])):=DU HX.out ((HO.out.fe i).qi _ (jL _));have HJ2:Hid (_=_):=JA x n (o.at i) k tN;go_wp2_with fail
      go_region_law (go_simp;go_at_call 142;refine HA.mono ?_;rintro e w1 ⟨rfl,aw⟩)
      all_goals
       have qq:=ZC.below aw;have vB:=qq.one.cell hfi.ok i aL;rw[Er]at vB;have hfr:=qq.one.frozen (1+i);have HT1:Hid (Ns w w1 (WS.set si i x) o):=qq;clear qq ZC kq oa hT;cases n
       all_goals
        go_wp2
        go_roundg (L-(k+1))
        case rel=>
         refine⟨k+1,_,_,by omega,by omega,by go_num,rfl,by have:=HT1.out.set i (fT x (o.at i)[k]);rw[WS.set_set]at this;exact this,HL,?_⟩;unfold Hid;rw[HJ.out,HJ2.out];rfl
        case measure=>omega
     ·have tN:¬(k:Int)<(o.at i).length:=by rw[<-HLn.out];omega
      have HE:Hid (iV o i si m=(WS.set si i x,n)):=by
       unfold Hid iV;rw[HJ.out,jT (by rw[<-HLn.out];omega)];rfl
      go_wp2
      go_roundg (24-(i+1))
      case rel=>
       refine⟨i+1,_,_,by omega,by omega,by go_num,rfl,hT,hfi,?_⟩;unfold Hid;rw[HI.out,HS.out,HE.out]
      case measure=>omega
   ·have HE:Hid (s.add o=(si,m)):=by
     unfold Hid;rw[HI.out,show 24-i=0 by omega];rfl
    have RQ:=Y7.out.ok;have hh:aU wr w.heap.size:=⟨_,RQ,hT.one⟩;have hhz:aU wr (w.heap.size+2):=⟨_,bF,hT.zero⟩;have hv:=bu hT.one;have xT:dh si.cells.toArray:=⟨_,RQ,rfl⟩;go_wp2
    all_goals exact CR hT.zero RQ rfl rfl ⟨by rw[HE.out];rfl,az hT.br (by omega) _ _⟩
theorem Nw (s o:WS)(w:World)(hs:s.dT)(ho:o.dT):
  Calls Tryz.prog 86 #[s.val,o.val] w fun e w'=>e=.returned (.tuple #[(s.add o).1.val,.bool (s.add o).2])/\Below w.heap.size w w':=by
 cases hk:s.known
 ·exact Nx s o w ho.ok hk
 ·exact Ny s o w hs ho hk
end RefZc
namespace RefZeR
open Go.RowKit Sq RefA RefR RefT RefU RefZc RefZd Aux
attribute [local go_sem ↓] mO kY
attribute [local go_sem] zI
def bg (n:Nat):Code->Option Code
 | .region k ops d=>if k=n then some (.region k ops d)else none
 | .seq a b=>match bg n a with
  |some c=>some c
  |none=>bg n b
 | .block _ c=>bg n c
 | .loop c=>bg n c
 | .scope c=>bg n c
 | .cond _ a b=>match bg n a with
  |some c=>some c
  |none=>bg n b
 |_=>none
noncomputable def W6:Code:=((Tryz.f52.body.bind (bg 38)).getD .skip)
theorem Bq (w:World):aB (w.alloc (.cells #[.bool false,.string ⟨#[]⟩,.string ⟨#[]⟩,.string ⟨#[]⟩,.string ⟨#[]⟩,.string ⟨#[]⟩,.string ⟨#[]⟩,.string ⟨#[]⟩,.string ⟨#[]⟩,.string ⟨#[]⟩,.string ⟨#[]⟩,.string ⟨#[]⟩,.string ⟨#[]⟩,.string ⟨#[]⟩,.string ⟨#[]⟩,.string ⟨#[]⟩,.string ⟨#[]⟩,.string ⟨#[]⟩,.string ⟨#[]⟩,.string ⟨#[]⟩,.string ⟨#[]⟩,.string ⟨#[]⟩,.string ⟨#[]⟩,.string ⟨#[]⟩,.string ⟨#[]⟩] 155)).drew w.heap.size aI:=aB.new w aI
theorem oE {B:Nat}{w0 w:World}(h:Below B w0 w)(hB:B<=w.heap.size):Below B w0 (w.alloc (.cells #[.bool false,.string ⟨#[]⟩,.string ⟨#[]⟩,.string ⟨#[]⟩,.string ⟨#[]⟩,.string ⟨#[]⟩,.string ⟨#[]⟩,.string ⟨#[]⟩,.string ⟨#[]⟩,.string ⟨#[]⟩,.string ⟨#[]⟩,.string ⟨#[]⟩,.string ⟨#[]⟩,.string ⟨#[]⟩,.string ⟨#[]⟩,.string ⟨#[]⟩,.string ⟨#[]⟩,.string ⟨#[]⟩,.string ⟨#[]⟩,.string ⟨#[]⟩,.string ⟨#[]⟩,.string ⟨#[]⟩,.string ⟨#[]⟩,.string ⟨#[]⟩,.string ⟨#[]⟩] 155)).drew:=below_drewN (h.alloc hB _) 1
set_option maxRecDepth 100000 in
set_option maxHeartbeats 8000000 in
theorem reg38 (a G n i g0 cap0 gl dt m:Nat)(t:WS×Bool)(s:WS)(L:List WS)(wr:World)(K:Act->World->Prop)(K1 K2 K3:Act->World->Prop)(P:Ending->World->Prop){u1 u2 u4 u5 u6 u7 u8 u9 u10 u11 u12 u13 u14 u15 u16 u17 u18 u19 u21 u22 u23 u24 u25 u26 u27 u28 u29 u30 u31 u32 u33 u34 u35 u36 u37 u38 u39 u40 u41 u42 u43 u44 u45 u46 u47 u48 u49 u50 u51 u52 u53 u54 u55 u56 u57 u58 u59 u60 u61 u62 u63 u64 u65 u66 u67 u68 u69 u70 u71 u72 u73 u74 u75 u76 u77 u78 u79 u80 u81 u82 u83 u84 u85 u86 u87 u88 u89 u90 u91 u92 u93 u94 u95 u96 u97 u98 u99 u100 u101 u102 u103 u104 u105 u106 u107 u108 u109 u110 u111 u112 u113 u114 u115 u116 u117 u118 u119 u120 u121 u122 u123 u124 u125 u126 u127 u128 u129 u130 u131 u132 u133 u134 u135 u136 u137 u138 u139 u140 u141 u142 u143 u144 u145 u146 u147 u148 u149 u150 u151 u152 u153 u154 u155 u156 u157 u158 u159 u160 u161 u162 u163 u164 u165 u166 u167 u168 u169 u170 u171 u172 u173 u174 u175 u176 u177 u178 u179 u180 u181 u182 u183 u184 u185 u186 u187 u188 u189 u190 u191 u192 u193 u194 u195 u196 u197 u198 u199 u200 u201 u202 u203 u204 u205 u206 u207 u208 u209 u210 u211 u212 u213 u214 u215 u216 u217 u218 u219:Value}
  (lg:i<n) (Co:i<L.length) (hO:cP L) (hs:lw L i=s) (hF:t.1.dT) (hR:aT wr G L)
  (Cm:∀W,Below wr.heap.size wr W->W.cell? ⟨a,0,none⟩=some (.slice (some ⟨g0,0,none⟩) n cap0))
  (vD:∀W,Below wr.heap.size wr W->W.cell? ⟨g0,i,none⟩=some (.slice (some ⟨gl,0,none⟩) m dt))
  (Ue:∀W,Below wr.heap.size wr W->Calls Tryz.prog 84 #[.pointer (some ⟨a,0,none⟩),.slice (some ⟨gl,0,none⟩) m dt,.agg s.cells.toArray] W fun e w'=>e=.returned (.tuple #[.agg t.1.cells.toArray,.bool t.2])/\Below W.heap.size W w')
  (hK:∀(x194 x195 x196 x197 x198 x199 x200 x201 x202 x203 x204 x205 x206 x207 x208 x209 x21:Value) (w':World),aT w' G L->Below wr.heap.size wr w'->K ⟨(List.toArray ((.pointer (some ⟨a,0,none⟩))::u1::u2::(.slice (some ⟨G,0,none⟩) n n)::u4::u5::u6::u7::u8::u9::u10::u11::u12::u13::u14::u15::u16::u17::u18::u19::(.int .i64 i)::x21::(.bool t.2)::u23::u24::u25::u26::u27::u28::u29::u30::u31::u32::u33::u34::u35::u36::u37::u38::u39::u40::u41::u42::u43::u44::u45::u46::u47::u48::u49::u50::u51::u52::u53::u54::u55::u56::u57::u58::u59::u60::u61::u62::u63::u64::u65::u66::u67::u68::u69::u70::u71::u72::u73::u74::u75::u76::u77::u78::u79::u80::u81::u82::u83::u84::u85::u86::u87::u88::u89::u90::u91::u92::u93::u94::u95::u96::u97::u98::u99::u100::u101::u102::u103::u104::u105::u106::u107::u108::u109::u110::u111::u112::u113::u114::u115::u116::u117::u118::u119::u120::u121::u122::u123::u124::u125::u126::u127::u128::u129::u130::u131::u132::u133::u134::u135::u136::u137::u138::u139::u140::u141::u142::u143::u144::u145::u146::u147::u148::u149::u150::u151::u152::u153::u154::u155::u156::u157::u158::u159::u160::u161::u162::u163::u164::u165::u166::u167::u168::u169::u170::u171::u172::u173::u174::u175::u176::u177::u178::u179::u180::u181::u182::u183::u184::u185::u186::u187::u188::u189::u190::u191::u192::u193::x194::x195::x196::x197::x198::x199::x200::x201::x202::x203::x204::x205::x206::x207::x208::x209::u210::u211::u212::u213::u214::u215::u216::u217::u218::u219::[])),[]⟩ w'):
  Code.wp Tryz.prog W6 (Exit.then K (Exit.inBlock 9 (Exit.then K1 (Exit.then K2 (Exit.inBlock 8 (Exit.then K3 (bodyPost Tryz.prog Tryz.f52 P))))))) ⟨(List.toArray ((.pointer (some ⟨a,0,none⟩))::u1::u2::(.slice (some ⟨G,0,none⟩) n n)::u4::u5::u6::u7::u8::u9::u10::u11::u12::u13::u14::u15::u16::u17::u18::u19::(.int .i64 i)::u21::u22::u23::u24::u25::u26::u27::u28::u29::u30::u31::u32::u33::u34::u35::u36::u37::u38::u39::u40::u41::u42::u43::u44::u45::u46::u47::u48::u49::u50::u51::u52::u53::u54::u55::u56::u57::u58::u59::u60::u61::u62::u63::u64::u65::u66::u67::u68::u69::u70::u71::u72::u73::u74::u75::u76::u77::u78::u79::u80::u81::u82::u83::u84::u85::u86::u87::u88::u89::u90::u91::u92::u93::u94::u95::u96::u97::u98::u99::u100::u101::u102::u103::u104::u105::u106::u107::u108::u109::u110::u111::u112::u113::u114::u115::u116::u117::u118::u119::u120::u121::u122::u123::u124::u125::u126::u127::u128::u129::u130::u131::u132::u133::u134::u135::u136::u137::u138::u139::u140::u141::u142::u143::u144::u145::u146::u147::u148::u149::u150::u151::u152::u153::u154::u155::u156::u157::u158::u159::u160::u161::u162::u163::u164::u165::u166::u167::u168::u169::u170::u171::u172::u173::u174::u175::u176::u177::u178::u179::u180::u181::u182::u183::u184::u185::u186::u187::u188::u189::u190::u191::u192::u193::u194::u195::u196::u197::u198::u199::u200::u201::u202::u203::u204::u205::u206::u207::u208::u209::u210::u211::u212::u213::u214::u215::u216::u217::u218::u219::[])),[]⟩ wr:=by
 subst hs;have U0:(i:Int)<n:=by omega
 have xT:dh t.1.cells.toArray:=⟨_,hF.ok,rfl⟩;have GA:aT wr.drew G L:=hR;have mZ:=Cm wr (Below.refl _ _);have AW:=vD wr (Below.refl _ _);have A1:=Bq wr;have fC:=oE (Below.refl wr.heap.size wr) (jC _);have sb:Below wr.heap.size wr wr.drew:=below_drewN (Below.refl _ _) 1;have hh:=GA.eC hO i Co;have hv:=GA.dE hO i Co;have hh2:=(hR.below fC).eC hO i Co;have YY:=(hR.below fC).dE hO i Co;have hcA:∀o,(wr.alloc o).cell? ⟨a,0,none⟩=some (.slice (some ⟨g0,0,none⟩) n cap0):=fun o=>Cm _ (bG wr o)
 have hclA:∀o,(wr.alloc o).cell? ⟨g0,i,none⟩=some (.slice (some ⟨gl,0,none⟩) m dt):=fun o=>vD _ (bG wr o)
 have HSA:=Ue _ fC;have HSB:=Ue _ sb
 conv=>arg 2;whnf
 go_region_law (first
  |(go_simp;go_at_call 84;refine HSA.mono ?_;rintro e w1 ⟨rfl,aw⟩;have Ez:qh w1 wr.heap.size 0:=(A1.below aw).eC bF)
  |(go_simp;go_at_call 84;refine HSB.mono ?_;rintro e w1 ⟨rfl,aw⟩))
 all_goals go_wp2_with fail
 all_goals first
  |exact hK _ _ _ _ _ _ _ _ _ _ _ _ _ _ _ _ _ _ (((hR.below fC).below aw).other (Nat.ne_of_lt hR.lt) 0 _) (az (fC.trans (aw.mono fC.size)) (jC _) 0 _)
  |exact hK _ _ _ _ _ _ _ _ _ _ _ _ _ _ _ _ _ _ ((GA.below aw).below (fH (Below.refl _ _) (jC _) _)) (sb.trans ((fH aw aw.size _).mono (jC _)))
end RefZeR
namespace RefZeS
open Go.RowKit Sq RefA RefR RefT RefU RefZc RefZd Aux
attribute [local go_sem ↓] mO kY
attribute [local go_sem] zI
def bg (n:Nat):Code->Option Code
 | .region k ops d=>if k=n then some (.region k ops d)else none
 | .seq a b=>match bg n a with
  |some c=>some c
  |none=>bg n b
 | .block _ c=>bg n c
 | .loop c=>bg n c
 | .scope c=>bg n c
 | .cond _ a b=>match bg n a with
  |some c=>some c
  |none=>bg n b
 |_=>none
noncomputable def W4:Code:=((Tryz.f52.body.bind (bg 18)).getD .skip)
theorem Bq (w:World):aB (w.alloc (.cells #[.bool false,.string ⟨#[]⟩,.string ⟨#[]⟩,.string ⟨#[]⟩,.string ⟨#[]⟩,.string ⟨#[]⟩,.string ⟨#[]⟩,.string ⟨#[]⟩,.string ⟨#[]⟩,.string ⟨#[]⟩,.string ⟨#[]⟩,.string ⟨#[]⟩,.string ⟨#[]⟩,.string ⟨#[]⟩,.string ⟨#[]⟩,.string ⟨#[]⟩,.string ⟨#[]⟩,.string ⟨#[]⟩,.string ⟨#[]⟩,.string ⟨#[]⟩,.string ⟨#[]⟩,.string ⟨#[]⟩,.string ⟨#[]⟩,.string ⟨#[]⟩,.string ⟨#[]⟩] 155)).drew w.heap.size aI:=aB.new w aI
theorem oE {B:Nat}{w0 w:World}(h:Below B w0 w)(hB:B<=w.heap.size):Below B w0 (w.alloc (.cells #[.bool false,.string ⟨#[]⟩,.string ⟨#[]⟩,.string ⟨#[]⟩,.string ⟨#[]⟩,.string ⟨#[]⟩,.string ⟨#[]⟩,.string ⟨#[]⟩,.string ⟨#[]⟩,.string ⟨#[]⟩,.string ⟨#[]⟩,.string ⟨#[]⟩,.string ⟨#[]⟩,.string ⟨#[]⟩,.string ⟨#[]⟩,.string ⟨#[]⟩,.string ⟨#[]⟩,.string ⟨#[]⟩,.string ⟨#[]⟩,.string ⟨#[]⟩,.string ⟨#[]⟩,.string ⟨#[]⟩,.string ⟨#[]⟩,.string ⟨#[]⟩,.string ⟨#[]⟩] 155)).drew:=below_drewN (h.alloc hB _) 1
set_option maxRecDepth 100000 in
set_option maxHeartbeats 8000000 in
theorem reg18 (G n i S:Nat)(r:WS×Bool)(o:WS)(L:List WS)(wr:World)(K K1 K2 K3 K4 K5:Act->World->Prop)(P:Ending->World->Prop){u0 u1 u2 u4 u5 u7 u9 u10 u11 u12 u13 u14 u15 u16 u17 u18 u19 u20 u21 u22 u23 u24 u25 u26 u27 u28 u29 u30 u31 u32 u33 u34 u35 u36 u37 u38 u39 u40 u41 u42 u43 u44 u45 u46 u47 u48 u49 u50 u51 u52 u53 u54 u55 u56 u57 u58 u59 u60 u61 u62 u63 u64 u65 u66 u67 u68 u69 u70 u71 u72 u73 u74 u75 u76 u77 u78 u79 u80 u81 u82 u83 u84 u85 u86 u87 u88 u89 u90 u91 u92 u93 u94 u95 u96 u97 u98 u99 u100 u101 u102 u103 u104 u105 u106 u107 u108 u109 u110 u111 u112 u113 u114 u115 u116 u117 u118 u119 u120 u121 u122 u123 u124 u125 u126 u127 u128 u129 u130 u131 u132 u133 u134 u135 u136 u137 u138 u139 u140 u141 u142 u143 u144 u145 u146 u147 u148 u149 u150 u151 u152 u153 u154 u155 u156 u157 u158 u159 u160 u161 u162 u163 u164 u165 u166 u167 u168 u169 u170 u171 u172 u173 u174 u175 u176 u177 u178 u179 u180 u181 u182 u183 u184 u185 u186 u187 u188 u189 u190 u191 u192 u193 u194 u195 u196 u197 u198 u199 u200 u201 u202 u203 u204 u205 u206 u207 u208 u209 u210 u211 u212 u213 u214 u215 u216 u217 u218 u219:Value}
  (lg:i+1<n) (hn:n<=4000) (hnL:L.length=n) (hO:cP L) (hF:o.dT) (hRF:r.1.dT) (hS:aB wr S o) (hR:aT wr G L)
  (Nq:∀W,Calls Tryz.prog 86 #[.agg (lw L (i+1)).cells.toArray,.agg o.cells.toArray] W fun e w'=>e=.returned (.tuple #[.agg r.1.cells.toArray,.bool r.2])/\Below W.heap.size W w')
  (hK:∀(x92 x93 x94 x95 x96 x97 x98 x99 x100 x101:Value) (T:Nat) (w':World),aB w' T r.1->G<T->aT w' G L->Below wr.heap.size wr w'->K ⟨(List.toArray (u0::u1::u2::(.slice (some ⟨G,0,none⟩) n n)::u4::u5::(.int .i64 i)::u7::(.pointer (some ⟨S,0,none⟩))::u9::u10::(.pointer (some ⟨T,0,none⟩))::(.bool r.2)::u13::u14::u15::u16::u17::u18::u19::u20::u21::u22::u23::u24::u25::u26::u27::u28::u29::u30::u31::u32::u33::u34::u35::u36::u37::u38::u39::u40::u41::u42::u43::u44::u45::u46::u47::u48::u49::u50::u51::u52::u53::u54::u55::u56::u57::u58::u59::u60::u61::u62::u63::u64::u65::u66::u67::u68::u69::u70::u71::u72::u73::u74::u75::u76::u77::u78::u79::u80::u81::u82::u83::u84::u85::u86::u87::u88::u89::u90::u91::x92::x93::x94::x95::x96::x97::x98::x99::x100::x101::u102::u103::u104::u105::u106::u107::u108::u109::u110::u111::u112::u113::u114::u115::u116::u117::u118::u119::u120::u121::u122::u123::u124::u125::u126::u127::u128::u129::u130::u131::u132::u133::u134::u135::u136::u137::u138::u139::u140::u141::u142::u143::u144::u145::u146::u147::u148::u149::u150::u151::u152::u153::u154::u155::u156::u157::u158::u159::u160::u161::u162::u163::u164::u165::u166::u167::u168::u169::u170::u171::u172::u173::u174::u175::u176::u177::u178::u179::u180::u181::u182::u183::u184::u185::u186::u187::u188::u189::u190::u191::u192::u193::u194::u195::u196::u197::u198::u199::u200::u201::u202::u203::u204::u205::u206::u207::u208::u209::u210::u211::u212::u213::u214::u215::u216::u217::u218::u219::[])),[]⟩ w'):
  Code.wp Tryz.prog W4 (Exit.then K (Exit.then K1 (Exit.inBlock 5 (Exit.then K2 (Exit.then K3 (Exit.inBlock 4 (Exit.inBlock 3 (Exit.then K4 (Exit.inBlock 2 (Exit.then K5 (bodyPost Tryz.prog Tryz.f52 P))))))))))) ⟨(List.toArray (u0::u1::u2::(.slice (some ⟨G,0,none⟩) n n)::u4::u5::(.int .i64 i)::u7::(.pointer (some ⟨S,0,none⟩))::u9::u10::u11::u12::u13::u14::u15::u16::u17::u18::u19::u20::u21::u22::u23::u24::u25::u26::u27::u28::u29::u30::u31::u32::u33::u34::u35::u36::u37::u38::u39::u40::u41::u42::u43::u44::u45::u46::u47::u48::u49::u50::u51::u52::u53::u54::u55::u56::u57::u58::u59::u60::u61::u62::u63::u64::u65::u66::u67::u68::u69::u70::u71::u72::u73::u74::u75::u76::u77::u78::u79::u80::u81::u82::u83::u84::u85::u86::u87::u88::u89::u90::u91::u92::u93::u94::u95::u96::u97::u98::u99::u100::u101::u102::u103::u104::u105::u106::u107::u108::u109::u110::u111::u112::u113::u114::u115::u116::u117::u118::u119::u120::u121::u122::u123::u124::u125::u126::u127::u128::u129::u130::u131::u132::u133::u134::u135::u136::u137::u138::u139::u140::u141::u142::u143::u144::u145::u146::u147::u148::u149::u150::u151::u152::u153::u154::u155::u156::u157::u158::u159::u160::u161::u162::u163::u164::u165::u166::u167::u168::u169::u170::u171::u172::u173::u174::u175::u176::u177::u178::u179::u180::u181::u182::u183::u184::u185::u186::u187::u188::u189::u190::u191::u192::u193::u194::u195::u196::u197::u198::u199::u200::u201::u202::u203::u204::u205::u206::u207::u208::u209::u210::u211::u212::u213::u214::u215::u216::u217::u218::u219::[])),[]⟩ wr:=by
 have Co:i+1<L.length:=by omega
 have hnx1:(i:Int)+1<n:=by omega
 have hnx0:(0:Int)<=(i:Int)+1:=by omega
 have YZ:IntKind.i64.wrap ((i:Int)+1)=(i:Int)+1:=by rw[IntKind.wrap_i64];omega
 have htn:((i:Int)+1).toNat=i+1:=by omega
 have oD:dh r.1.cells.toArray:=⟨_,hRF.ok,rfl⟩;have GA:aT wr.drew G L:=hR;have Re:aB wr.drew S o:=hS;have A1:=Bq wr;have fC:=oE (Below.refl wr.heap.size wr) (jC _);have sb:Below wr.heap.size wr wr.drew:=below_drewN (Below.refl _ _) 1;have hhR:=GA.eC hO (i+1) Co;have hvR:=GA.dE hO (i+1) Co;have hhR2:=(hR.below fC).eC hO (i+1) Co;have hvR2:=(hR.below fC).dE hO (i+1) Co;have Z0:=Re.eC hF.ok;have hvS:=Re.dE hF.ok;have hhS2:=(hS.below fC).eC hF.ok;have hvS2:=(hS.below fC).dE hF.ok
 conv=>arg 2;whnf
 go_region_law (first
  |(go_simp;go_at_call 86;refine(Nq wr.drew).mono ?_;rintro e w2 ⟨rfl,bU⟩)
  |(go_simp;go_at_call 86;refine(Nq (wr.alloc (.cells #[.bool false,.string ⟨#[]⟩,.string ⟨#[]⟩,.string ⟨#[]⟩,.string ⟨#[]⟩,.string ⟨#[]⟩,.string ⟨#[]⟩,.string ⟨#[]⟩,.string ⟨#[]⟩,.string ⟨#[]⟩,.string ⟨#[]⟩,.string ⟨#[]⟩,.string ⟨#[]⟩,.string ⟨#[]⟩,.string ⟨#[]⟩,.string ⟨#[]⟩,.string ⟨#[]⟩,.string ⟨#[]⟩,.string ⟨#[]⟩,.string ⟨#[]⟩,.string ⟨#[]⟩,.string ⟨#[]⟩,.string ⟨#[]⟩,.string ⟨#[]⟩,.string ⟨#[]⟩] 155)).drew).mono ?_;rintro e w2 ⟨rfl,bU⟩;have Ez:qh w2 wr.heap.size 0:=(A1.below bU).eC bF))
 all_goals go_wp2_with fail
 all_goals first
  |exact hK _ _ _ _ _ _ _ _ _ _ _ _ (z6 w2 hRF.ok) (jK hR.lt bU.size) ((GA.below bU).below (fH (Below.refl _ _) (jC _) _)) (sb.trans ((fH bU bU.size _).mono (jC _)))
  |exact hK _ _ _ _ _ _ _ _ _ _ _ _ ((A1.below bU).store bF hRF.ok) hR.lt (((hR.below fC).below bU).other (Nat.ne_of_lt hR.lt) 0 _) (az (fC.trans (bU.mono fC.size)) (jC _) 0 _)
end RefZeS
end Go.Proofs.YtmlgajhhnojdjaaGreatDoor

import Derived.Test.YtmlgajhhnojdjaaGreatDoorRAX
import Derived.Test.YtmlgajhhnojdjaaGreatDoorRBC
namespace Go.Proofs.YtmlgajhhnojdjaaGreatDoor
namespace RefM
open Go.RowKit Sq RefA RefE RefF RefL RefN Aux
theorem DJ (l:B)(c:UInt8)(w:World)(h:l.length<=1099511627776):
  Calls Tryz.prog 67 #[.string (bs l),.int .u8 c.toNat] w fun e w'=>∃g cap,e=.returned (.slice (some ⟨g,0,none⟩) (split c l).length cap)/\w'.ownsRow w.heap.size 9 1 (.slice (some ⟨g,0,none⟩) (split c l).length cap) (split c l).length (cellsOf (split c l))/\Below w.heap.size w w':=by
 refine(Tn l c w h).mono ?_;rintro e w' ⟨v,rfl,ho,hb⟩;have hl:1<=(split c l).length:=by
  have:=o9 c l;cases hs:split c l with
  |nil=>exact absurd hs this
  |cons a b=>simp
 obtain⟨g,cap,rfl,-⟩:=yl ho hl;exact⟨g,cap,rfl,ho,hb⟩
theorem rz (l:B)(w:World)(h:l.length<=1099511627776):
  Calls Tryz.prog 67 #[.string (bs l),.int .u8 10] w fun e w'=>∃g cap,e=.returned (.slice (some ⟨g,0,none⟩) (split 10 l).length cap)/\w'.ownsRow w.heap.size 9 1 (.slice (some ⟨g,0,none⟩) (split 10 l).length cap) (split 10 l).length (cellsOf (split 10 l))/\Below w.heap.size w w':=DJ l 10 w h
theorem I0 (l:B)(w:World)(h:l.length<=1099511627776):
  Calls Tryz.prog 67 #[.string (bs l),.int .u8 32] w fun e w'=>∃g cap,e=.returned (.slice (some ⟨g,0,none⟩) (split 32 l).length cap)/\w'.ownsRow w.heap.size 9 1 (.slice (some ⟨g,0,none⟩) (split 32 l).length cap) (split 32 l).length (cellsOf (split 32 l))/\Below w.heap.size w w':=DJ l 32 w h
theorem Oq:(Tryz.prog.info? 34).map (fun i=>(i.zero,i.size,i.bytes))=some (some (.slice none 0 0),1,24):=by kernel_rfl
theorem A2:(Tryz.prog.info? 3).map (fun i=>(i.zero,i.size,i.bytes))=some (some (.int .i64 0),1,8):=by kernel_rfl
theorem LU (z:Nat)(w:World)(raw:Bool)(hz:z<=w.heap.size):j8 z w.heap.size (w.alloc (.cells #[.slice none 0 0,.slice none 0 0,.slice none 0 0,.bool raw] 128)) (Sq.start raw) (.slice none 0 0) (.slice none 0 0) (.slice none 0 0) []:=
 ⟨hz,by show(w.heap.push _)[w.heap.size]?=_;simp[Sq.start],World.ownsRow_nil _ _ _ _,fun j hj=>by simp at hj,World.ownsRow_nil _ _ _ _,World.ownsRow_nil _ _ _ _,.inl rfl⟩
def qz (text:B)(raw:Bool)(w:World)(e:Ending)(w':World):Prop:=
 Below w.heap.size w w'/\∃v,e=.returned (.tuple #[v,.int .i64 ((aJ text raw).2.1:Int),.int .i64 ((aJ text raw).2.2:Int)])/\
  ((aJ text raw).1=none/\v=.pointer none\/∃p a,(aJ text raw).1=some p/\v=.pointer (some ⟨a,0,none⟩)/\p.Ok/\∃vl vt vb us,j8 w.heap.size a w' p vl vt vb us)
theorem mJ {text:B}{raw:Bool}{w w':World}{c k:Nat}(hb:Below w.heap.size w w')(h:aJ text raw=(none,c,k)):qz text raw w (.returned (.tuple #[.pointer none,.int .i64 (c:Int),.int .i64 (k:Int)])) w':=
 ⟨hb,.pointer none,by rw[h],.inl ⟨by rw[h],rfl⟩⟩
theorem Pn {text:B}{raw:Bool}{w w':World}{L:List B}{a:Nat}{v0:Value}{p:RP}(hh:lC L w a v0 w' p)(cd:p.Ok)(h:aJ text raw=(some p,0,0)):qz text raw w (.returned (.tuple #[.pointer (some ⟨a,0,none⟩),.int .i64 0,.int .i64 0])) w':=
 ⟨hh.bq,.pointer (some ⟨a,0,none⟩),by rw[h];rfl,.inr ⟨p,a,by rw[h],rfl,cd,hh.inv⟩⟩
theorem EZ {text:B}{raw:Bool}{k:Nat}{q:RP}(h1:(split 10 text).length<=4000)(h2:raw=false->(split 10 text).length<=120)(h:dw (aY text) (Sq.start raw) 0=(q,some k)):aJ text raw=(none,2,k):=by
 rw[aJ,ja,h];rintro(h'|⟨h',h''⟩)
 ·omega
 ·have:=h2 h';omega
set_option maxRecDepth 20000 in
set_option maxHeartbeats 4000000 in
theorem Pt (text:B)(raw:Bool)(w:World)(h:text.length<=1099511627776)(h1:(split 10 text).length<=4000)(h2:raw=false->(split 10 text).length<=120):
  Calls Tryz.prog 46 #[.string (bs text),.bool raw] w (qz text raw w):=by
 have H2:Hid (raw=false->(split 10 text).length<=120):=h2;have di:Hid (∀j,(word (split 10 text) j).length<=1099511627776):=fun j=>jS (eM 10 text j) h
 obtain⟨i34,hi34,hz34a,hz34b,hz34c⟩:=info_parts Oq;obtain⟨i3,XE,hz3a,hz3b,hz3c⟩:=info_parts A2;go_enter Tryz.func46,Tryz.ntmps46
 go_upto_region 2 with(go_at_call 67;refine(rz text _ h).mono ?_;rintro e w1 ⟨g0,c0,rfl,ho0,fB⟩)
 go_cut [29] (fun b wc=>wc=w1/\b=.bool false)
 case first=>
  cases raw
  ·have h3:=h2 rfl;clear h2;go_wp2
   go_meet
   case rel=>exact⟨rfl,by congr 1;simp;omega⟩
  ·clear h2;go_wp2
   go_meet
   case rel=>exact⟨rfl,by congr 1;simp;omega⟩
 case rest=>
  obtain⟨rfl,rfl⟩:=hcut;clear h2;go_wp2
  have X0:=fB.size;have RQ:lC (split 10 text) w wc.heap.size (.slice (some ⟨g0,0,none⟩) (split 10 text).length c0) (wc.alloc (.cells #[.slice none 0 0,.slice none 0 0,.slice none 0 0,.bool raw] 128)) (Sq.start raw):=
   ⟨⟨_,_,_,_,LU w.heap.size wc raw X0⟩,fB.alloc X0 _,ho0.alloc _⟩
  generalize hA:wc.heap.size=a at*;clear hA;go_loopw [9] (fun i wr=>∃(k:Nat) (p:RP),k<=(split 10 text).length/\i=.int .i64 k/\lC (split 10 text) w a (.slice (some ⟨g0,0,none⟩) (split 10 text).length c0) wr p/\Hid (kJ text raw k p)) (fun i _=>(split 10 text).length-(intOf i).toNat)
  case atStart=>exact⟨0,Sq.start raw,jQ _,rfl,RQ,kJ.start text raw⟩
  case round=>
   obtain⟨k,p,hk,rfl,hH,HP⟩:=hrel;clear RQ ho0 fB X0;by_cases aK:k<(split 10 text).length
   ·have hHH:=hH;obtain⟨⟨vl,vt,vb,us,hinv⟩,hold,fZ⟩:=hH;have AV:wr.cell? ⟨a,0,none⟩=some vl:=by rw[cell_of_heap hinv.aI];rfl
    have P7:wr.frozen? ⟨a,0,none⟩=false:=frozen_of_heap hinv.aI 0;obtain⟨g,cap,e,kL,TY,aC⟩:=yl fZ (by omega);simp only[Value.slice.injEq,Option.some.injEq,Addr.mk.injEq,and_true,true_and]at e;obtain⟨rfl,rfl⟩:=e;have hcx:=aC k aK;have YO:(k:Int)<(split 10 text).length:=by omega
    have qO:w.heap.size<=wr.heap.size:=hold.size;have halt:=hinv.lt;have Qa:=HP.out.ok.size;have XN:some a≠vl.ownBlock:=(ar hinv.lines hinv.aI (by decide)).symm;have HPK:Hid (p.lines.length=k):=HP.out.length (by omega);clear aC;go_upto_region 8 with fail
    go_cut [] (fun wc'=>lC (split 10 text) w a (.slice (some ⟨g0,0,none⟩) (split 10 text).length c0) wc' (p.addLine (split 32 (word (split 10 text) k))))
    case first=>
     go_region_law (first
       |(refine PL (by rfl) _ _ _ (by rfl) w.heap.size 34 i34 (.slice none 0 0) 24 Tryz.underlying126 hi34 hz34a hz34b hz34c (by rfl) _ _ _ (by rfl) (ax hinv.lines av) _ (by rfl) (by rfl) (by decide) (by omega) (by have:=av.size;omega) ?_;intro g2 c2 w2 hown2 hgrow2 hat2 hlt2;have hfz:w2.frozen? ⟨a,0,none⟩=false:=(by rw[World.frozen?_of_block (hgrow2.block a (by have:=av.size;simp;omega) XN),(bF _ _).frozen (by exact X1),av.frozen (by exact halt)];exact P7);have ZL:w2.cell? ⟨a,0,none⟩=some vl:=(hgrow2.cell (by rw[(bF _ _).cell (by exact X1)];exact hcl1) XN))
       |(go_simp;go_at_call 67;refine(I0 _ _ (di.out k)).mono ?_;rintro e w1 ⟨g1,c1,rfl,YT,oM⟩;have av:Below wr.heap.size wr w1:=JJ oM;have hcl1:w1.cell? ⟨a,0,none⟩=some vl:=(by rw[av.cell (by exact halt)];exact AV);have X1:a<w1.heap.size:=(by have:=av.size;omega)))
     all_goals go_wp2_with fail
     all_goals
      go_meet
      case rel=>exact hHH.line hinv av YT hown2 hgrow2
    case rest=>
     have WO:Hid ((p.addLine (split 32 (word (split 10 text) k))).form k=false->aJ text raw=(none,2,k)):=fun hf=>by
      obtain⟨q,hq⟩:=HP.out.bad aK hf;exact EZ h1 H2.out hq
     have Qf:Hid ((p.addLine (split 32 (word (split 10 text) k))).form k=true->kJ text raw (k+1) ((p.addLine (split 32 (word (split 10 text) k))).mark k)):=fun hf=>HP.out.step h aK h1 hf
     have GM:=HP.out.SG h aK h1;have tm:k<(p.addLine (split 32 (word (split 10 text) k))).lines.length:=by have:=HPK.out;simp[RP.addLine];omega
     have xQ:(p.addLine (split 32 (word (split 10 text) k))).lets.length<4000/\(p.addLine (split 32 (word (split 10 text) k))).blocks.length<4000:=by have:=HP.out.fc;simp[RP.addLine];omega
     clear AV P7 hcx XN HPK HP hinv fZ hold hHH Qa halt qO TY kL;generalize p.addLine (split 32 (word (split 10 text) k))=p1 at*;obtain⟨ZS,ZT⟩:=xQ;have yQ:=hcut.yb GM;have Y7:=Q8 p1 a k _ yQ GM tm;obtain⟨gL,capL,gl,dr,ko,vA,mZ,xP,hw⟩:=yQ.gG k tm;have FE:=GM.words k tm;have qS:=hw 0 (by omega);have hi30:(0:Int)<(p1.line k).length:=by omega
     have hi31:(k:Int)<p1.lines.length:=by omega
     have X1:=GM.size;cases hf:p1.form k
     ·rw[hf]at Y7;have hx:=WO.out hf;clear WO Qf hf;go_wp2_with (go_at_call 68;refine Y7.mono ?_;rintro e w' ⟨rfl,n,rfl⟩)
      go_ret3
      exact mJ (hcut.drewN n).bq hx
     ·rw[hf]at Y7;have HM:=Qf.out hf;have hokm:=GM.fQ tm hf ZS;have Ud:Hid (kJ text raw (k+1) (p1.mark k)):=HM;clear WO Qf HM hf;go_upto_if 68 with(go_at_call 68;refine Y7.mono ?_;rintro e w' ⟨rfl,n,rfl⟩)
      clear Y7;have Xw:=hcut.drewN n;go_cut [] (fun wc2=>lC (split 10 text) w a (.slice (some ⟨g0,0,none⟩) (split 10 text).length c0) wc2 (p1.fQ k))
      case first=>
       have ZM:=Xw;obtain⟨⟨vl1,vt1,vb1,us1,mr⟩,RH,hrow1⟩:=Xw;have hct:wc.cell? ⟨a,1,none⟩=some vt1:=by have:=cell_of_heap mr.aI 1;exact this
       have hft:wc.frozen? ⟨a,1,none⟩=false:=by have:=frozen_of_heap mr.aI 1;exact this
       have Ke:=RH.size;have GB:a<wc.heap.size:=mr.lt;have RF:some a≠vt1.ownBlock:=(ar mr.lets mr.aI (by decide)).symm;go_wp2_with (at_builtin;refine qC rfl _ _ 113 rfl w.heap.size 3 i3 (.int .i64 0) 8 Tryz.underlying113 XE hz3a hz3b hz3c rfl vt1 _ _ rfl mr.lets _ rfl rfl (by decide) (by omega) Ke ?_;intro g2 c2 w2 hown2 hgrow2 hat2 hlt2;have hfz:w2.frozen? ⟨a,1,none⟩=false:=(by rw[World.frozen?_of_block (hgrow2.block a (by simp;omega) RF),(bF _ _).frozen (by exact GB)];exact hft);have ZL:w2.cell? ⟨a,1,none⟩=some vt1:=(hgrow2.cell (by rw[(bF _ _).cell (by exact GB)];exact hct) RF))
       ·go_meet
        case rel=>
         have YQ:p1.fQ k=p1.dC k:=by rw[RP.fQ,jb (by simpa [cv]using‹(word (p1.line k) 0==_)=true›)]
         rw[YQ];exact ZM.dC mr hown2 hgrow2 (fun g hg=>by
          simp only[Value.ownBlock,Option.some.injEq]at hg;subst hg;simpa using hat2)
       ·go_meet
        case rel=>
         have YQ:p1.fQ k=p1:=by rw[RP.fQ,ja (by simpa [cv]using‹(word (p1.line k) 0==_)=false›)]
         rw[YQ];exact ZM
      case rest=>
       have P9:Hid (word (p1.line k) 0=aQ->p1.mark k=(p1.fQ k).addBlock k):=fun e=>RP.Lq e
       have hmn:Hid (¬word (p1.line k) 0=aQ->p1.mark k=p1.fQ k):=fun e=>RP.OT e
       have Dg:k<(p1.fQ k).lines.length:=by rw[RP.H9];exact tm
       have xr:(p1.fQ k).line k=p1.line k:=RP.Lp _ _ _;have hfew3:(p1.fQ k).blocks.length<4000:=by unfold RP.fQ;split<;>exact ZT
       clear ko vA mZ xP hw qS yQ Xw;generalize p1.fQ k=p2 at*;have yQ:=hcut.yb hokm;obtain⟨gL,capL,gl,dr,ko,vA,mZ,xP,hw⟩:=yQ.gG k Dg;rw[xr]at mZ xP hw;have qS:=hw 0 (by omega);have hi32:(k:Int)<p2.lines.length:=by omega
       have hsz2:=hokm.size;have Wc:=hcut;obtain⟨⟨vl1,vt1,vb1,us1,mr⟩,RH,hrow1⟩:=hcut;have hct:wc.cell? ⟨a,2,none⟩=some vb1:=by have:=cell_of_heap mr.aI 2;exact this
       have hft:wc.frozen? ⟨a,2,none⟩=false:=by have:=frozen_of_heap mr.aI 2;exact this
       have Ke:=RH.size;have GB:a<wc.heap.size:=mr.lt;have RF:some a≠vb1.ownBlock:=(ar mr.blocks mr.aI (by decide)).symm;clear hw xr yQ;go_wp2_with (at_builtin;refine qC rfl _ _ 113 rfl w.heap.size 3 i3 (.int .i64 0) 8 Tryz.underlying113 XE hz3a hz3b hz3c rfl vb1 _ _ rfl mr.blocks _ rfl rfl (by decide) (by omega) Ke ?_;intro g2 c2 w2 hown2 hgrow2 hat2 hlt2;have hfz:w2.frozen? ⟨a,2,none⟩=false:=(by rw[World.frozen?_of_block (hgrow2.block a (by simp;omega) RF),(bF _ _).frozen (by exact GB)];exact hft);have ZL:w2.cell? ⟨a,2,none⟩=some vb1:=(hgrow2.cell (by rw[(bF _ _).cell (by exact GB)];exact hct) RF))
       ·go_roundw
        case rel=>
         refine⟨k+1,p1.mark k,by omega,by go_num,?_,Ud⟩;rw[P9.out (by simpa [aQ]using‹(word (p1.line k) 0==_)=true›)];exact Wc.addBlock mr hown2 hgrow2 (fun g hg=>by
          simp only[Value.ownBlock,Option.some.injEq]at hg;subst hg;simpa using hat2)
        case measure=>simp[intOf];omega
       ·go_roundw
        case rel=>
         refine⟨k+1,p1.mark k,by omega,by go_num,?_,Ud⟩;rw[hmn.out (by simpa [aQ]using‹(word (p1.line k) 0==_)=false›)];exact Wc
        case measure=>simp[intOf];omega
   ·obtain rfl:k=(split 10 text).length:=by omega
    have HR:Hid (_=_):=IJ h1 H2.out HP.out.read;have cd:=HP.out.ok;have HLO:Hid (∀j,j<(split 10 text).length->p.gN j):=HP.out.Se;have HN:Hid (p.lines.length=(split 10 text).length):=HP.out.length (jC _);have yQ:=hH.yb cd;have Dd:=cd.s9;obtain⟨bb,cb,Rz⟩:=yQ.pw;have FF:=ir p a (split 10 text).length wr yQ cd (by rw[HN.out];omega);clear HP di aK H2 hk;by_cases lf:p.inside (split 10 text).length=true
    ·have hx:aJ text raw=(none,2,(split 10 text).length):=by rw[HR.out,jb (.inl lf)]
     rw[lf]at FF;clear HR lf;go_wp2_with (go_at_call 69;refine FF.mono ?_;rintro e w' ⟨rfl,n,rfl⟩)
     go_ret3
     exact mJ (hH.drewN n).bq hx
    ·by_cases fB:p.blocks.length=0
     ·have hx:aJ text raw=(none,2,(split 10 text).length):=by rw[HR.out,jb (.inr fB)]
      rw[Bool.not_eq_true]at lf;rw[lf]at FF;clear HR lf;go_wp2_with (go_at_call 69;refine FF.mono ?_;rintro e w' ⟨rfl,n,rfl⟩)
      go_ret3
      exact mJ (hH.drewN n).bq hx
     ·have kb:Hid (aJ text raw=match bo p.names ((split 10 text).length-0) 0 with
        |some i=>(none,3,i)
        |none=>match bo p.cy ((split 10 text).length-0) 0 with
         |some i=>(none,4,i)
         |none=>(some p,0,0)):=by rw[HR.out,ja (not_or.mpr ⟨lf,fB⟩)];rfl
      rw[Bool.not_eq_true]at lf;rw[lf]at FF;have av:((p.blocks.length:Int)==0)=false:=by rw[jZ];omega
      clear HR lf fB;go_wp2_with (go_at_call 69;refine FF.mono ?_;rintro e w' ⟨rfl,n,rfl⟩)
      obtain⟨wo,hwo⟩:∃wo:World,wo=wr:=⟨_,rfl⟩;subst hwo;go_loopg [12] ((split 10 text).length) (fun gk i wn=>∃(k m:Nat),k<=(split 10 text).length/\gk+k=(split 10 text).length/\i=.int .i64 k/\wn=wo.drewN m/\Hid (bo p.names ((split 10 text).length-0) 0=bo p.names ((split 10 text).length-k) k))
      case atStart=>exact⟨0,n,jQ _,rfl,rfl,rfl,rfl⟩
      case round=>
       obtain⟨k,m,hk,GH,rfl,rfl,HI⟩:=hrel;by_cases aK:k<(split 10 text).length
       ·have HS:Hid (_=_):=sD p.names _ k aK;have HNm:=Sv p a k (wo.drewN m) (yQ.drewN m) cd (by rw[HN.out];exact aK) (HLO.out k aK);clear FF;cases Ko:p.names k
        ·have hx:aJ text raw=(none,3,k):=by rw[kb.out,HI.out,HS.out,Ko];rfl
         rw[Ko]at HNm;clear Ko;go_wp2_with (go_at_call 70;refine HNm.mono ?_;rintro e w' ⟨rfl,nn,rfl⟩)
         go_ret3
         exact mJ (hH.drewN (m+nn)).bq hx
        ·have hx:Hid (bo p.names ((split 10 text).length-k) k=bo p.names ((split 10 text).length-(k+1)) (k+1)):=by unfold Hid;rw[HS.out,Ko];rfl
         rw[Ko]at HNm;clear Ko;go_wp2_with (go_at_call 70;refine HNm.mono ?_;rintro e w' ⟨rfl,nn,rfl⟩)
         go_roundg ((split 10 text).length-(k+1))
         case rel=>exact⟨k+1,m+nn,by omega,by omega,by go_num,by simp,by rw[HI.out,hx.out];rfl⟩
         case measure=>omega
       ·have HA:Hid (∀j,j<(split 10 text).length->p.names j=true):=fun j hj=>lG p.names _ 0 (by rw[HI.out,show(split 10 text).length-k=0 by omega];rfl) j (by omega) (by omega)
        have HR3:Hid (aJ text raw=match bo p.cy ((split 10 text).length-0) 0 with
         |some i=>(none,4,i)
         |none=>(some p,0,0)):=by
         unfold Hid;rw[kb.out,HI.out,show(split 10 text).length-k=0 by omega];rfl
        clear kb HI FF;go_wp2
        clear aK hk;go_loopg [14] ((split 10 text).length) (fun gk i wn=>∃(k m:Nat),k<=(split 10 text).length/\gk+k=(split 10 text).length/\i=.int .i64 k/\wn=wo.drewN m/\Hid (bo p.cy ((split 10 text).length-0) 0=bo p.cy ((split 10 text).length-k) k))
        case atStart=>exact⟨0,m,jQ _,rfl,rfl,rfl,rfl⟩
        case round=>
         obtain⟨k,m,hk,GH,rfl,rfl,HI⟩:=hrel;by_cases aK:k<(split 10 text).length
         ·have HS:Hid (_=_):=sD p.cy _ k aK;have tM:k<p.lines.length:=by rw[HN.out];exact aK
          obtain⟨gL,capL,gl,dr,ko,vA,mZ,xP,hw⟩:=yQ.gG k tM;have FE:=cd.words k tM;have qS:=hw 0 (by omega);have hi30:(0:Int)<(p.line k).length:=by omega
          have hi31:(k:Int)<p.lines.length:=by omega
          have hszp:=cd.size;clear hw;by_cases et:word (p.line k) 0=cv
          ·have qk:(word (p.line k) 0==[108,101,116])=true:=by rw[et];rfl
           have hx:Hid (bo p.cy ((split 10 text).length-k) k=bo p.cy ((split 10 text).length-(k+1)) (k+1)):=by unfold Hid;rw[HS.out,jb (by simp[RP.cy,et])]
           clear et;go_wp2
           go_roundg ((split 10 text).length-(k+1))
           case rel=>exact⟨k+1,m,by omega,by omega,by go_num,rfl,by rw[HI.out,hx.out];rfl⟩
           case measure=>omega
          ·have qk:(word (p.line k) 0==[108,101,116])=false:=by simpa [cv]using et
           by_cases bU:word (p.line k) 0=aQ
           ·have B6:(word (p.line k) 0==[98,108,111,99,107])=true:=by rw[bU];rfl
            have hx:Hid (bo p.cy ((split 10 text).length-k) k=bo p.cy ((split 10 text).length-(k+1)) (k+1)):=by unfold Hid;rw[HS.out,jb (by simp[RP.cy,bU])]
            clear et bU;go_wp2
            go_roundg ((split 10 text).length-(k+1))
            case rel=>exact⟨k+1,m,by omega,by omega,by go_num,rfl,by rw[HI.out,hx.out];rfl⟩
            case measure=>omega
           ·have B6:(word (p.line k) 0==[98,108,111,99,107])=false:=by simpa [aQ]using bU
            have U9:Hid (p.cy k=p.types k):=by unfold Hid RP.cy;rw[show(word (p.line k) 0==cv)=false from qk,show(word (p.line k) 0==aQ)=false from B6];rfl
            have HTm:=TF p a k (wo.drewN m) (yQ.drewN m) cd tM (HLO.out k aK) et (HA.out k aK);clear et bU;cases qu:p.types k
            ·have hx:aJ text raw=(none,4,k):=by rw[HR3.out,HI.out,HS.out,U9.out,qu];rfl
             rw[qu]at HTm;clear qu;go_wp2_with (go_at_call 71;refine HTm.mono ?_;rintro e w' ⟨rfl,nn,rfl⟩)
             go_ret3
             exact mJ (hH.drewN (m+nn)).bq hx
            ·have hx:Hid (bo p.cy ((split 10 text).length-k) k=bo p.cy ((split 10 text).length-(k+1)) (k+1)):=by unfold Hid;rw[HS.out,U9.out,qu];rfl
             rw[qu]at HTm;clear qu;go_wp2_with (go_at_call 71;refine HTm.mono ?_;rintro e w' ⟨rfl,nn,rfl⟩)
             go_roundg ((split 10 text).length-(k+1))
             case rel=>exact⟨k+1,m+nn,by omega,by omega,by go_num,by simp,by rw[HI.out,hx.out];rfl⟩
             case measure=>omega
         ·have hx:aJ text raw=(some p,0,0):=by rw[HR3.out,HI.out,show(split 10 text).length-k=0 by omega];rfl
          clear HR3 HI;go_wp2
          go_ret3
          exact Pn (hH.drewN m) cd hx
set_option maxRecDepth 20000 in
set_option maxHeartbeats 1000000 in
theorem yc (text:B)(raw:Bool)(w:World)(h:text.length<=1099511627776)(h1:4000<(split 10 text).length\/(raw=false/\120<(split 10 text).length)):
  Calls Tryz.prog 46 #[.string (bs text),.bool raw] w (qz text raw w):=by
 have hx:aJ text raw=(none,1,0):=by rw[aJ,jb h1]
 have hlen:=lP 10 text;by_cases h4:4000<(split 10 text).length
 ·clear h1;go_enter Tryz.func46,Tryz.ntmps46
  go_wp2_with (go_at_call 67;refine(rz text _ h).mono ?_;rintro e w1 ⟨g0,c0,rfl,ho0,fB⟩)
  go_ret3
  exact mJ fB hx
 ·obtain⟨rfl,h5⟩:raw=false/\120<(split 10 text).length:=h1.resolve_left h4;clear h1;go_enter Tryz.func46,Tryz.ntmps46
  go_wp2_with (go_at_call 67;refine(rz text _ h).mono ?_;rintro e w1 ⟨g0,c0,rfl,ho0,fB⟩)
  go_ret3
  exact mJ fB hx
theorem S4 (text:B)(raw:Bool)(w:World)(h:text.length<=1099511627776):Calls Tryz.prog 46 #[.string (bs text),.bool raw] w (qz text raw w):=by
 by_cases hl:4000<(split 10 text).length\/(raw=false/\120<(split 10 text).length)
 ·exact yc text raw w h hl
 ·simp only[not_or,not_and]at hl;exact Pt text raw w h (by omega) (fun e=>by have:=hl.2 e;omega)
end RefM
namespace RefZeR
open Go.RowKit Sq RefA RefR RefT RefU RefZc RefZd Aux
attribute [local go_sem ↓] mN kX
attribute [local go_sem] zH
def bf (n:Nat):Code->Option Code
 | .region k ops d=>if k=n then some (.region k ops d)else none
 | .seq a b=>match bf n a with
  |some c=>some c
  |none=>bf n b
 | .block _ c=>bf n c
 | .loop c=>bf n c
 | .scope c=>bf n c
 | .cond _ a b=>match bf n a with
  |some c=>some c
  |none=>bf n b
 |_=>none
noncomputable def W5:Code:=((Tryz.f52.body.bind (bf 38)).getD .skip)
theorem Bp (w:World):aA (w.alloc (.cells #[.bool false,.string ⟨#[]⟩,.string ⟨#[]⟩,.string ⟨#[]⟩,.string ⟨#[]⟩,.string ⟨#[]⟩,.string ⟨#[]⟩,.string ⟨#[]⟩,.string ⟨#[]⟩,.string ⟨#[]⟩,.string ⟨#[]⟩,.string ⟨#[]⟩,.string ⟨#[]⟩,.string ⟨#[]⟩,.string ⟨#[]⟩,.string ⟨#[]⟩,.string ⟨#[]⟩,.string ⟨#[]⟩,.string ⟨#[]⟩,.string ⟨#[]⟩,.string ⟨#[]⟩,.string ⟨#[]⟩,.string ⟨#[]⟩,.string ⟨#[]⟩,.string ⟨#[]⟩] 155)).drew w.heap.size aH:=aA.new w aH
theorem oD {B:Nat}{w0 w:World}(h:Below B w0 w)(hB:B<=w.heap.size):Below B w0 (w.alloc (.cells #[.bool false,.string ⟨#[]⟩,.string ⟨#[]⟩,.string ⟨#[]⟩,.string ⟨#[]⟩,.string ⟨#[]⟩,.string ⟨#[]⟩,.string ⟨#[]⟩,.string ⟨#[]⟩,.string ⟨#[]⟩,.string ⟨#[]⟩,.string ⟨#[]⟩,.string ⟨#[]⟩,.string ⟨#[]⟩,.string ⟨#[]⟩,.string ⟨#[]⟩,.string ⟨#[]⟩,.string ⟨#[]⟩,.string ⟨#[]⟩,.string ⟨#[]⟩,.string ⟨#[]⟩,.string ⟨#[]⟩,.string ⟨#[]⟩,.string ⟨#[]⟩,.string ⟨#[]⟩] 155)).drew:=below_drewN (h.alloc hB _) 1
set_option maxRecDepth 100000 in
set_option maxHeartbeats 8000000 in
theorem reg38 (a G n i g0 cap0 gl dr m:Nat)(t:WS×Bool)(s:WS)(L:List WS)(wr:World)(K:Act->World->Prop)(K1 K2 K3:Act->World->Prop)(P:Ending->World->Prop){u1 u2 u4 u5 u6 u7 u8 u9 u10 u11 u12 u13 u14 u15 u16 u17 u18 u19 u21 u22 u23 u24 u25 u26 u27 u28 u29 u30 u31 u32 u33 u34 u35 u36 u37 u38 u39 u40 u41 u42 u43 u44 u45 u46 u47 u48 u49 u50 u51 u52 u53 u54 u55 u56 u57 u58 u59 u60 u61 u62 u63 u64 u65 u66 u67 u68 u69 u70 u71 u72 u73 u74 u75 u76 u77 u78 u79 u80 u81 u82 u83 u84 u85 u86 u87 u88 u89 u90 u91 u92 u93 u94 u95 u96 u97 u98 u99 u100 u101 u102 u103 u104 u105 u106 u107 u108 u109 u110 u111 u112 u113 u114 u115 u116 u117 u118 u119 u120 u121 u122 u123 u124 u125 u126 u127 u128 u129 u130 u131 u132 u133 u134 u135 u136 u137 u138 u139 u140 u141 u142 u143 u144 u145 u146 u147 u148 u149 u150 u151 u152 u153 u154 u155 u156 u157 u158 u159 u160 u161 u162 u163 u164 u165 u166 u167 u168 u169 u170 u171 u172 u173 u174 u175 u176 u177 u178 u179 u180 u181 u182 u183 u184 u185 u186 u187 u188 u189 u190 u191 u192 u193 u194 u195 u196 u197 u198 u199 u200 u201 u202 u203 u204 u205 u206 u207 u208 u209 u210 u211 u212 u213 u214 u215 u216 u217 u218 u219:Value}
  (lf:i<n) (Cn:i<L.length) (hO:cO L) (hs:lw L i=s) (hF:t.1.dS) (hR:aS wr G L)
  (Cl:∀W,Below wr.heap.size wr W->W.cell? ⟨a,0,none⟩=some (.slice (some ⟨g0,0,none⟩) n cap0))
  (vC:∀W,Below wr.heap.size wr W->W.cell? ⟨g0,i,none⟩=some (.slice (some ⟨gl,0,none⟩) m dr))
  (Ud:∀W,Below wr.heap.size wr W->Calls Tryz.prog 84 #[.pointer (some ⟨a,0,none⟩),.slice (some ⟨gl,0,none⟩) m dr,.agg s.cells.toArray] W fun e w'=>e=.returned (.tuple #[.agg t.1.cells.toArray,.bool t.2])/\Below W.heap.size W w')
  (hK:∀(x194 x195 x196 x197 x198 x199 x200 x201 x202 x203 x204 x205 x206 x207 x208 x209 x21:Value) (w':World),aS w' G L->Below wr.heap.size wr w'->K ⟨(List.toArray ((.pointer (some ⟨a,0,none⟩))::u1::u2::(.slice (some ⟨G,0,none⟩) n n)::u4::u5::u6::u7::u8::u9::u10::u11::u12::u13::u14::u15::u16::u17::u18::u19::(.int .i64 i)::x21::(.bool t.2)::u23::u24::u25::u26::u27::u28::u29::u30::u31::u32::u33::u34::u35::u36::u37::u38::u39::u40::u41::u42::u43::u44::u45::u46::u47::u48::u49::u50::u51::u52::u53::u54::u55::u56::u57::u58::u59::u60::u61::u62::u63::u64::u65::u66::u67::u68::u69::u70::u71::u72::u73::u74::u75::u76::u77::u78::u79::u80::u81::u82::u83::u84::u85::u86::u87::u88::u89::u90::u91::u92::u93::u94::u95::u96::u97::u98::u99::u100::u101::u102::u103::u104::u105::u106::u107::u108::u109::u110::u111::u112::u113::u114::u115::u116::u117::u118::u119::u120::u121::u122::u123::u124::u125::u126::u127::u128::u129::u130::u131::u132::u133::u134::u135::u136::u137::u138::u139::u140::u141::u142::u143::u144::u145::u146::u147::u148::u149::u150::u151::u152::u153::u154::u155::u156::u157::u158::u159::u160::u161::u162::u163::u164::u165::u166::u167::u168::u169::u170::u171::u172::u173::u174::u175::u176::u177::u178::u179::u180::u181::u182::u183::u184::u185::u186::u187::u188::u189::u190::u191::u192::u193::x194::x195::x196::x197::x198::x199::x200::x201::x202::x203::x204::x205::x206::x207::x208::x209::u210::u211::u212::u213::u214::u215::u216::u217::u218::u219::[])),[]⟩ w'):
  Code.wp Tryz.prog W5 (Exit.then K (Exit.inBlock 9 (Exit.then K1 (Exit.then K2 (Exit.inBlock 8 (Exit.then K3 (bodyPost Tryz.prog Tryz.f52 P))))))) ⟨(List.toArray ((.pointer (some ⟨a,0,none⟩))::u1::u2::(.slice (some ⟨G,0,none⟩) n n)::u4::u5::u6::u7::u8::u9::u10::u11::u12::u13::u14::u15::u16::u17::u18::u19::(.int .i64 i)::u21::u22::u23::u24::u25::u26::u27::u28::u29::u30::u31::u32::u33::u34::u35::u36::u37::u38::u39::u40::u41::u42::u43::u44::u45::u46::u47::u48::u49::u50::u51::u52::u53::u54::u55::u56::u57::u58::u59::u60::u61::u62::u63::u64::u65::u66::u67::u68::u69::u70::u71::u72::u73::u74::u75::u76::u77::u78::u79::u80::u81::u82::u83::u84::u85::u86::u87::u88::u89::u90::u91::u92::u93::u94::u95::u96::u97::u98::u99::u100::u101::u102::u103::u104::u105::u106::u107::u108::u109::u110::u111::u112::u113::u114::u115::u116::u117::u118::u119::u120::u121::u122::u123::u124::u125::u126::u127::u128::u129::u130::u131::u132::u133::u134::u135::u136::u137::u138::u139::u140::u141::u142::u143::u144::u145::u146::u147::u148::u149::u150::u151::u152::u153::u154::u155::u156::u157::u158::u159::u160::u161::u162::u163::u164::u165::u166::u167::u168::u169::u170::u171::u172::u173::u174::u175::u176::u177::u178::u179::u180::u181::u182::u183::u184::u185::u186::u187::u188::u189::u190::u191::u192::u193::u194::u195::u196::u197::u198::u199::u200::u201::u202::u203::u204::u205::u206::u207::u208::u209::u210::u211::u212::u213::u214::u215::u216::u217::u218::u219::[])),[]⟩ wr:=by
 subst hs;have UZ:(i:Int)<n:=by omega
 have xS:df t.1.cells.toArray:=⟨_,hF.ok,rfl⟩;have Gz:aS wr.drew G L:=hR;have mY:=Cl wr (Below.refl _ _);have AV:=vC wr (Below.refl _ _);have A0:=Bp wr;have fB:=oD (Below.refl wr.heap.size wr) (jC _);have r8:Below wr.heap.size wr wr.drew:=below_drewN (Below.refl _ _) 1;have hh:=Gz.eB hO i Cn;have hv:=Gz.dD hO i Cn;have hh2:=(hR.below fB).eB hO i Cn;have YX:=(hR.below fB).dD hO i Cn;have hcA:∀o,(wr.alloc o).cell? ⟨a,0,none⟩=some (.slice (some ⟨g0,0,none⟩) n cap0):=fun o=>Cl _ (bF wr o)
 have hclA:∀o,(wr.alloc o).cell? ⟨g0,i,none⟩=some (.slice (some ⟨gl,0,none⟩) m dr):=fun o=>vC _ (bF wr o)
 have HSA:=Ud _ fB;have HSB:=Ud _ r8
 conv=>arg 2;whnf
 go_region_law (first
  |(go_simp;go_at_call 84;refine HSA.mono ?_;rintro e w1 ⟨rfl,av⟩;have Ey:qg w1 wr.heap.size 0:=(A0.below av).eB bE)
  |(go_simp;go_at_call 84;refine HSB.mono ?_;rintro e w1 ⟨rfl,av⟩))
 all_goals go_wp2_with fail
 all_goals first
  |exact hK _ _ _ _ _ _ _ _ _ _ _ _ _ _ _ _ _ _ (((hR.below fB).below av).other (Nat.ne_of_lt hR.lt) 0 _) (ay (fB.trans (av.mono fB.size)) (jC _) 0 _)
  |exact hK _ _ _ _ _ _ _ _ _ _ _ _ _ _ _ _ _ _ ((Gz.below av).below (fG (Below.refl _ _) (jC _) _)) (r8.trans ((fG av av.size _).mono (jC _)))
end RefZeR
namespace RefZeS
open Go.RowKit Sq RefA RefR RefT RefU RefZc RefZd Aux
attribute [local go_sem ↓] mN kX
attribute [local go_sem] zH
def bf (n:Nat):Code->Option Code
 | .region k ops d=>if k=n then some (.region k ops d)else none
 | .seq a b=>match bf n a with
  |some c=>some c
  |none=>bf n b
 | .block _ c=>bf n c
 | .loop c=>bf n c
 | .scope c=>bf n c
 | .cond _ a b=>match bf n a with
  |some c=>some c
  |none=>bf n b
 |_=>none
noncomputable def WZ:Code:=((Tryz.f52.body.bind (bf 18)).getD .skip)
theorem Bp (w:World):aA (w.alloc (.cells #[.bool false,.string ⟨#[]⟩,.string ⟨#[]⟩,.string ⟨#[]⟩,.string ⟨#[]⟩,.string ⟨#[]⟩,.string ⟨#[]⟩,.string ⟨#[]⟩,.string ⟨#[]⟩,.string ⟨#[]⟩,.string ⟨#[]⟩,.string ⟨#[]⟩,.string ⟨#[]⟩,.string ⟨#[]⟩,.string ⟨#[]⟩,.string ⟨#[]⟩,.string ⟨#[]⟩,.string ⟨#[]⟩,.string ⟨#[]⟩,.string ⟨#[]⟩,.string ⟨#[]⟩,.string ⟨#[]⟩,.string ⟨#[]⟩,.string ⟨#[]⟩,.string ⟨#[]⟩] 155)).drew w.heap.size aH:=aA.new w aH
theorem oD {B:Nat}{w0 w:World}(h:Below B w0 w)(hB:B<=w.heap.size):Below B w0 (w.alloc (.cells #[.bool false,.string ⟨#[]⟩,.string ⟨#[]⟩,.string ⟨#[]⟩,.string ⟨#[]⟩,.string ⟨#[]⟩,.string ⟨#[]⟩,.string ⟨#[]⟩,.string ⟨#[]⟩,.string ⟨#[]⟩,.string ⟨#[]⟩,.string ⟨#[]⟩,.string ⟨#[]⟩,.string ⟨#[]⟩,.string ⟨#[]⟩,.string ⟨#[]⟩,.string ⟨#[]⟩,.string ⟨#[]⟩,.string ⟨#[]⟩,.string ⟨#[]⟩,.string ⟨#[]⟩,.string ⟨#[]⟩,.string ⟨#[]⟩,.string ⟨#[]⟩,.string ⟨#[]⟩] 155)).drew:=below_drewN (h.alloc hB _) 1
set_option maxRecDepth 100000 in
set_option maxHeartbeats 8000000 in
theorem reg18 (G n i S:Nat)(r:WS×Bool)(o:WS)(L:List WS)(wr:World)(K K1 K2 K3 K4 K5:Act->World->Prop)(P:Ending->World->Prop){u0 u1 u2 u4 u5 u7 u9 u10 u11 u12 u13 u14 u15 u16 u17 u18 u19 u20 u21 u22 u23 u24 u25 u26 u27 u28 u29 u30 u31 u32 u33 u34 u35 u36 u37 u38 u39 u40 u41 u42 u43 u44 u45 u46 u47 u48 u49 u50 u51 u52 u53 u54 u55 u56 u57 u58 u59 u60 u61 u62 u63 u64 u65 u66 u67 u68 u69 u70 u71 u72 u73 u74 u75 u76 u77 u78 u79 u80 u81 u82 u83 u84 u85 u86 u87 u88 u89 u90 u91 u92 u93 u94 u95 u96 u97 u98 u99 u100 u101 u102 u103 u104 u105 u106 u107 u108 u109 u110 u111 u112 u113 u114 u115 u116 u117 u118 u119 u120 u121 u122 u123 u124 u125 u126 u127 u128 u129 u130 u131 u132 u133 u134 u135 u136 u137 u138 u139 u140 u141 u142 u143 u144 u145 u146 u147 u148 u149 u150 u151 u152 u153 u154 u155 u156 u157 u158 u159 u160 u161 u162 u163 u164 u165 u166 u167 u168 u169 u170 u171 u172 u173 u174 u175 u176 u177 u178 u179 u180 u181 u182 u183 u184 u185 u186 u187 u188 u189 u190 u191 u192 u193 u194 u195 u196 u197 u198 u199 u200 u201 u202 u203 u204 u205 u206 u207 u208 u209 u210 u211 u212 u213 u214 u215 u216 u217 u218 u219:Value}
  (lf:i+1<n) (hn:n<=4000) (hnL:L.length=n) (hO:cO L) (hF:o.dS) (hRF:r.1.dS) (hS:aA wr S o) (hR:aS wr G L)
  (Np:∀W,Calls Tryz.prog 86 #[.agg (lw L (i+1)).cells.toArray,.agg o.cells.toArray] W fun e w'=>e=.returned (.tuple #[.agg r.1.cells.toArray,.bool r.2])/\Below W.heap.size W w')
  (hK:∀(x92 x93 x94 x95 x96 x97 x98 x99 x100 x101:Value) (T:Nat) (w':World),aA w' T r.1->G<T->aS w' G L->Below wr.heap.size wr w'->K ⟨(List.toArray (u0::u1::u2::(.slice (some ⟨G,0,none⟩) n n)::u4::u5::(.int .i64 i)::u7::(.pointer (some ⟨S,0,none⟩))::u9::u10::(.pointer (some ⟨T,0,none⟩))::(.bool r.2)::u13::u14::u15::u16::u17::u18::u19::u20::u21::u22::u23::u24::u25::u26::u27::u28::u29::u30::u31::u32::u33::u34::u35::u36::u37::u38::u39::u40::u41::u42::u43::u44::u45::u46::u47::u48::u49::u50::u51::u52::u53::u54::u55::u56::u57::u58::u59::u60::u61::u62::u63::u64::u65::u66::u67::u68::u69::u70::u71::u72::u73::u74::u75::u76::u77::u78::u79::u80::u81::u82::u83::u84::u85::u86::u87::u88::u89::u90::u91::x92::x93::x94::x95::x96::x97::x98::x99::x100::x101::u102::u103::u104::u105::u106::u107::u108::u109::u110::u111::u112::u113::u114::u115::u116::u117::u118::u119::u120::u121::u122::u123::u124::u125::u126::u127::u128::u129::u130::u131::u132::u133::u134::u135::u136::u137::u138::u139::u140::u141::u142::u143::u144::u145::u146::u147::u148::u149::u150::u151::u152::u153::u154::u155::u156::u157::u158::u159::u160::u161::u162::u163::u164::u165::u166::u167::u168::u169::u170::u171::u172::u173::u174::u175::u176::u177::u178::u179::u180::u181::u182::u183::u184::u185::u186::u187::u188::u189::u190::u191::u192::u193::u194::u195::u196::u197::u198::u199::u200::u201::u202::u203::u204::u205::u206::u207::u208::u209::u210::u211::u212::u213::u214::u215::u216::u217::u218::u219::[])),[]⟩ w'):
  Code.wp Tryz.prog WZ (Exit.then K (Exit.then K1 (Exit.inBlock 5 (Exit.then K2 (Exit.then K3 (Exit.inBlock 4 (Exit.inBlock 3 (Exit.then K4 (Exit.inBlock 2 (Exit.then K5 (bodyPost Tryz.prog Tryz.f52 P))))))))))) ⟨(List.toArray (u0::u1::u2::(.slice (some ⟨G,0,none⟩) n n)::u4::u5::(.int .i64 i)::u7::(.pointer (some ⟨S,0,none⟩))::u9::u10::u11::u12::u13::u14::u15::u16::u17::u18::u19::u20::u21::u22::u23::u24::u25::u26::u27::u28::u29::u30::u31::u32::u33::u34::u35::u36::u37::u38::u39::u40::u41::u42::u43::u44::u45::u46::u47::u48::u49::u50::u51::u52::u53::u54::u55::u56::u57::u58::u59::u60::u61::u62::u63::u64::u65::u66::u67::u68::u69::u70::u71::u72::u73::u74::u75::u76::u77::u78::u79::u80::u81::u82::u83::u84::u85::u86::u87::u88::u89::u90::u91::u92::u93::u94::u95::u96::u97::u98::u99::u100::u101::u102::u103::u104::u105::u106::u107::u108::u109::u110::u111::u112::u113::u114::u115::u116::u117::u118::u119::u120::u121::u122::u123::u124::u125::u126::u127::u128::u129::u130::u131::u132::u133::u134::u135::u136::u137::u138::u139::u140::u141::u142::u143::u144::u145::u146::u147::u148::u149::u150::u151::u152::u153::u154::u155::u156::u157::u158::u159::u160::u161::u162::u163::u164::u165::u166::u167::u168::u169::u170::u171::u172::u173::u174::u175::u176::u177::u178::u179::u180::u181::u182::u183::u184::u185::u186::u187::u188::u189::u190::u191::u192::u193::u194::u195::u196::u197::u198::u199::u200::u201::u202::u203::u204::u205::u206::u207::u208::u209::u210::u211::u212::u213::u214::u215::u216::u217::u218::u219::[])),[]⟩ wr:=by
 have Cn:i+1<L.length:=by omega
 have hnx1:(i:Int)+1<n:=by omega
 have hnx0:(0:Int)<=(i:Int)+1:=by omega
 have YY:IntKind.i64.wrap ((i:Int)+1)=(i:Int)+1:=by rw[IntKind.wrap_i64];omega
 have htn:((i:Int)+1).toNat=i+1:=by omega
 have oC:df r.1.cells.toArray:=⟨_,hRF.ok,rfl⟩;have Gz:aS wr.drew G L:=hR;have Rd:aA wr.drew S o:=hS;have A0:=Bp wr;have fB:=oD (Below.refl wr.heap.size wr) (jC _);have r8:Below wr.heap.size wr wr.drew:=below_drewN (Below.refl _ _) 1;have hhR:=Gz.eB hO (i+1) Cn;have hvR:=Gz.dD hO (i+1) Cn;have hhR2:=(hR.below fB).eB hO (i+1) Cn;have hvR2:=(hR.below fB).dD hO (i+1) Cn;have ZZ:=Rd.eB hF.ok;have hvS:=Rd.dD hF.ok;have hhS2:=(hS.below fB).eB hF.ok;have hvS2:=(hS.below fB).dD hF.ok
 conv=>arg 2;whnf
 go_region_law (first
  |(go_simp;go_at_call 86;refine(Np wr.drew).mono ?_;rintro e w2 ⟨rfl,bT⟩)
  |(go_simp;go_at_call 86;refine(Np (wr.alloc (.cells #[.bool false,.string ⟨#[]⟩,.string ⟨#[]⟩,.string ⟨#[]⟩,.string ⟨#[]⟩,.string ⟨#[]⟩,.string ⟨#[]⟩,.string ⟨#[]⟩,.string ⟨#[]⟩,.string ⟨#[]⟩,.string ⟨#[]⟩,.string ⟨#[]⟩,.string ⟨#[]⟩,.string ⟨#[]⟩,.string ⟨#[]⟩,.string ⟨#[]⟩,.string ⟨#[]⟩,.string ⟨#[]⟩,.string ⟨#[]⟩,.string ⟨#[]⟩,.string ⟨#[]⟩,.string ⟨#[]⟩,.string ⟨#[]⟩,.string ⟨#[]⟩,.string ⟨#[]⟩] 155)).drew).mono ?_;rintro e w2 ⟨rfl,bT⟩;have Ey:qg w2 wr.heap.size 0:=(A0.below bT).eB bE))
 all_goals go_wp2_with fail
 all_goals first
  |exact hK _ _ _ _ _ _ _ _ _ _ _ _ (zZ w2 hRF.ok) (jK hR.lt bT.size) ((Gz.below bT).below (fG (Below.refl _ _) (jC _) _)) (r8.trans ((fG bT bT.size _).mono (jC _)))
  |exact hK _ _ _ _ _ _ _ _ _ _ _ _ ((A0.below bT).store bE hRF.ok) hR.lt (((hR.below fB).below bT).other (Nat.ne_of_lt hR.lt) 0 _) (ay (fB.trans (bT.mono fB.size)) (jC _) 0 _)
end RefZeS
end Go.Proofs.YtmlgajhhnojdjaaGreatDoor

import Derived.Test.YtmlgajhhnojdjaaGreatDoorRAW
import Derived.Test.YtmlgajhhnojdjaaGreatDoorRAV
namespace Go.Proofs.YtmlgajhhnojdjaaGreatDoor
namespace RefM
open Go.RowKit Sq RefA RefE RefF RefL RefN Aux
theorem DK (l:B)(c:UInt8)(w:World)(h:l.length<=1099511627776):
  Calls Tryz.prog 67 #[.string (bs l),.int .u8 c.toNat] w fun e w'=>∃g cap,e=.returned (.slice (some ⟨g,0,none⟩) (split c l).length cap)/\w'.ownsRow w.heap.size 9 1 (.slice (some ⟨g,0,none⟩) (split c l).length cap) (split c l).length (cellsOf (split c l))/\Below w.heap.size w w':=by
 refine(To l c w h).mono ?_;rintro e w' ⟨v,rfl,ho,hb⟩;have hl:1<=(split c l).length:=by
  have:=pa c l;cases hs:split c l with
  |nil=>exact absurd hs this
  |cons a b=>simp
 obtain⟨g,cap,rfl,-⟩:=ym ho hl;exact⟨g,cap,rfl,ho,hb⟩
theorem rA (l:B)(w:World)(h:l.length<=1099511627776):
  Calls Tryz.prog 67 #[.string (bs l),.int .u8 10] w fun e w'=>∃g cap,e=.returned (.slice (some ⟨g,0,none⟩) (split 10 l).length cap)/\w'.ownsRow w.heap.size 9 1 (.slice (some ⟨g,0,none⟩) (split 10 l).length cap) (split 10 l).length (cellsOf (split 10 l))/\Below w.heap.size w w':=DK l 10 w h
theorem I1 (l:B)(w:World)(h:l.length<=1099511627776):
  Calls Tryz.prog 67 #[.string (bs l),.int .u8 32] w fun e w'=>∃g cap,e=.returned (.slice (some ⟨g,0,none⟩) (split 32 l).length cap)/\w'.ownsRow w.heap.size 9 1 (.slice (some ⟨g,0,none⟩) (split 32 l).length cap) (split 32 l).length (cellsOf (split 32 l))/\Below w.heap.size w w':=DK l 32 w h
theorem Ot:(Tryz.prog.info? 34).map (fun i=>(i.zero,i.size,i.bytes))=some (some (.slice none 0 0),1,24):=by kernel_rfl
theorem A3:(Tryz.prog.info? 3).map (fun i=>(i.zero,i.size,i.bytes))=some (some (.int .i64 0),1,8):=by kernel_rfl
theorem LV (z:Nat)(w:World)(raw:Bool)(hz:z<=w.heap.size):j9 z w.heap.size (w.alloc (.cells #[.slice none 0 0,.slice none 0 0,.slice none 0 0,.bool raw] 128)) (Sq.start raw) (.slice none 0 0) (.slice none 0 0) (.slice none 0 0) []:=
 ⟨hz,by show(w.heap.push _)[w.heap.size]?=_;simp[Sq.start],World.ownsRow_nil _ _ _ _,fun j hj=>by simp at hj,World.ownsRow_nil _ _ _ _,World.ownsRow_nil _ _ _ _,.inl rfl⟩
def qA (text:B)(raw:Bool)(w:World)(e:Ending)(w':World):Prop:=
 Below w.heap.size w w'/\∃v,e=.returned (.tuple #[v,.int .i64 ((aK text raw).2.1:Int),.int .i64 ((aK text raw).2.2:Int)])/\
  ((aK text raw).1=none/\v=.pointer none\/∃p a,(aK text raw).1=some p/\v=.pointer (some ⟨a,0,none⟩)/\p.Ok/\∃vl vt vb us,j9 w.heap.size a w' p vl vt vb us)
theorem mK {text:B}{raw:Bool}{w w':World}{c k:Nat}(hb:Below w.heap.size w w')(h:aK text raw=(none,c,k)):qA text raw w (.returned (.tuple #[.pointer none,.int .i64 (c:Int),.int .i64 (k:Int)])) w':=
 ⟨hb,.pointer none,by rw[h],.inl ⟨by rw[h],rfl⟩⟩
theorem Po {text:B}{raw:Bool}{w w':World}{L:List B}{a:Nat}{v0:Value}{p:RP}(hh:lD L w a v0 w' p)(cf:p.Ok)(h:aK text raw=(some p,0,0)):qA text raw w (.returned (.tuple #[.pointer (some ⟨a,0,none⟩),.int .i64 0,.int .i64 0])) w':=
 ⟨hh.br,.pointer (some ⟨a,0,none⟩),by rw[h];rfl,.inr ⟨p,a,by rw[h],rfl,cf,hh.inv⟩⟩
theorem E0 {text:B}{raw:Bool}{k:Nat}{q:RP}(h1:(split 10 text).length<=4000)(h2:raw=false->(split 10 text).length<=120)(h:dx (aZ text) (Sq.start raw) 0=(q,some k)):aK text raw=(none,2,k):=by
 rw[aK,ja,h];rintro(h'|⟨h',h''⟩)
 ·omega
 ·have:=h2 h';omega
set_option maxRecDepth 20000 in
set_option maxHeartbeats 4000000 in
theorem Pu (text:B)(raw:Bool)(w:World)(h:text.length<=1099511627776)(h1:(split 10 text).length<=4000)(h2:raw=false->(split 10 text).length<=120):
  Calls Tryz.prog 46 #[.string (bs text),.bool raw] w (qA text raw w):=by
 have H2:Hid (raw=false->(split 10 text).length<=120):=h2;have dj:Hid (∀j,(word (split 10 text) j).length<=1099511627776):=fun j=>jS (eN 10 text j) h
 obtain⟨i34,hi34,hz34a,hz34b,hz34c⟩:=info_parts Ot;obtain⟨i3,XF,hz3a,hz3b,hz3c⟩:=info_parts A3;go_enter Tryz.func46,Tryz.ntmps46
 go_upto_region 2 with(go_at_call 67;refine(rA text _ h).mono ?_;rintro e w1 ⟨g0,c0,rfl,ho0,fC⟩)
 go_cut [29] (fun b wc=>wc=w1/\b=.bool false)
 case first=>
  cases raw
  ·have h3:=h2 rfl;clear h2;go_wp2
   go_meet
   case rel=>exact⟨rfl,by congr 1;simp;omega⟩
  ·clear h2;go_wp2
   go_meet
   case rel=>exact⟨rfl,by congr 1;simp;omega⟩
 case rest=>
  obtain⟨rfl,rfl⟩:=hcut;clear h2;go_wp2
  have X1:=fC.size;have RR:lD (split 10 text) w wc.heap.size (.slice (some ⟨g0,0,none⟩) (split 10 text).length c0) (wc.alloc (.cells #[.slice none 0 0,.slice none 0 0,.slice none 0 0,.bool raw] 128)) (Sq.start raw):=
   ⟨⟨_,_,_,_,LV w.heap.size wc raw X1⟩,fC.alloc X1 _,ho0.alloc _⟩
  generalize hA:wc.heap.size=a at*;clear hA;go_loopw [9] (fun i wr=>∃(k:Nat) (p:RP),k<=(split 10 text).length/\i=.int .i64 k/\lD (split 10 text) w a (.slice (some ⟨g0,0,none⟩) (split 10 text).length c0) wr p/\Hid (kK text raw k p)) (fun i _=>(split 10 text).length-(intOf i).toNat)
  case atStart=>exact⟨0,Sq.start raw,jQ _,rfl,RR,kK.start text raw⟩
  case round=>
   obtain⟨k,p,hk,rfl,hH,HP⟩:=hrel;clear RR ho0 fC X1;by_cases aL:k<(split 10 text).length
   ·have hHH:=hH;obtain⟨⟨vl,vt,vb,us,hinv⟩,hold,ga⟩:=hH;have AW:wr.cell? ⟨a,0,none⟩=some vl:=by rw[cell_of_heap hinv.aJ];rfl
    have P8:wr.frozen? ⟨a,0,none⟩=false:=frozen_of_heap hinv.aJ 0;obtain⟨g,cap,e,kM,TZ,aD⟩:=ym ga (by omega);simp only[Value.slice.injEq,Option.some.injEq,Addr.mk.injEq,and_true,true_and]at e;obtain⟨rfl,rfl⟩:=e;have hcx:=aD k aL;have YP:(k:Int)<(split 10 text).length:=by omega
    have qP:w.heap.size<=wr.heap.size:=hold.size;have halt:=hinv.lt;have Qb:=HP.out.ok.size;have XO:some a≠vl.ownBlock:=(au hinv.lines hinv.aJ (by decide)).symm;have HPK:Hid (p.lines.length=k):=HP.out.length (by omega);clear aD;go_upto_region 8 with fail
    go_cut [] (fun wc'=>lD (split 10 text) w a (.slice (some ⟨g0,0,none⟩) (split 10 text).length c0) wc' (p.addLine (split 32 (word (split 10 text) k))))
    case first=>
     go_region_law (first
       |(refine PM (by rfl) _ _ _ (by rfl) w.heap.size 34 i34 (.slice none 0 0) 24 Tryz.underlying126 hi34 hz34a hz34b hz34c (by rfl) _ _ _ (by rfl) (ay hinv.lines aw) _ (by rfl) (by rfl) (by decide) (by omega) (by have:=aw.size;omega) ?_;intro g2 c2 w2 hown2 hgrow2 hat2 hlt2;have hfz:w2.frozen? ⟨a,0,none⟩=false:=(by rw[World.frozen?_of_block (hgrow2.block a (by have:=aw.size;simp;omega) XO),(bG _ _).frozen (by exact X2),aw.frozen (by exact halt)];exact P8);have ZM:w2.cell? ⟨a,0,none⟩=some vl:=(hgrow2.cell (by rw[(bG _ _).cell (by exact X2)];exact hcl1) XO))
       |(go_simp;go_at_call 67;refine(I1 _ _ (dj.out k)).mono ?_;rintro e w1 ⟨g1,c1,rfl,YU,oN⟩;have aw:Below wr.heap.size wr w1:=JK oN;have hcl1:w1.cell? ⟨a,0,none⟩=some vl:=(by rw[aw.cell (by exact halt)];exact AW);have X2:a<w1.heap.size:=(by have:=aw.size;omega)))
     all_goals go_wp2_with fail
     all_goals
      go_meet
      case rel=>exact hHH.line hinv aw YU hown2 hgrow2
    case rest=>
     have WQ:Hid ((p.addLine (split 32 (word (split 10 text) k))).form k=false->aK text raw=(none,2,k)):=fun hf=>by
      obtain⟨q,hq⟩:=HP.out.bad aL hf;exact E0 h1 H2.out hq
     have Qg:Hid ((p.addLine (split 32 (word (split 10 text) k))).form k=true->kK text raw (k+1) ((p.addLine (split 32 (word (split 10 text) k))).mark k)):=fun hf=>HP.out.step h aL h1 hf
     have GN:=HP.out.SH h aL h1;have tn:k<(p.addLine (split 32 (word (split 10 text) k))).lines.length:=by have:=HPK.out;simp[RP.addLine];omega
     have xR:(p.addLine (split 32 (word (split 10 text) k))).lets.length<4000/\(p.addLine (split 32 (word (split 10 text) k))).blocks.length<4000:=by have:=HP.out.fe;simp[RP.addLine];omega
     clear AW P8 hcx XO HPK HP hinv ga hold hHH Qb halt qP TZ kM;generalize p.addLine (split 32 (word (split 10 text) k))=p1 at*;obtain⟨ZT,ZU⟩:=xR;have yR:=hcut.yc GN;have Y8:=Q9 p1 a k _ yR GN tn;obtain⟨gL,capL,gl,dt,kq,vB,oa,xQ,hw⟩:=yR.gH k tn;have FF:=GN.words k tn;have qT:=hw 0 (by omega);have hi30:(0:Int)<(p1.line k).length:=by omega
     have hi31:(k:Int)<p1.lines.length:=by omega
     have X2:=GN.size;cases hf:p1.form k
     ·rw[hf]at Y8;have hx:=WQ.out hf;clear WQ Qg hf;go_wp2_with (go_at_call 68;refine Y8.mono ?_;rintro e w' ⟨rfl,n,rfl⟩)
      go_ret3
      exact mK (hcut.drewN n).br hx
     ·rw[hf]at Y8;have HM:=Qg.out hf;have hokm:=GN.fR tn hf ZT;have Ue:Hid (kK text raw (k+1) (p1.mark k)):=HM;clear WQ Qg HM hf;go_upto_if 68 with(go_at_call 68;refine Y8.mono ?_;rintro e w' ⟨rfl,n,rfl⟩)
      clear Y8;have Xx:=hcut.drewN n;go_cut [] (fun wc2=>lD (split 10 text) w a (.slice (some ⟨g0,0,none⟩) (split 10 text).length c0) wc2 (p1.fR k))
      case first=>
       have ZN:=Xx;obtain⟨⟨vl1,vt1,vb1,us1,mw⟩,RI,hrow1⟩:=Xx;have hct:wc.cell? ⟨a,1,none⟩=some vt1:=by have:=cell_of_heap mw.aJ 1;exact this
       have hft:wc.frozen? ⟨a,1,none⟩=false:=by have:=frozen_of_heap mw.aJ 1;exact this
       have Kf:=RI.size;have GC:a<wc.heap.size:=mw.lt;have RG:some a≠vt1.ownBlock:=(au mw.lets mw.aJ (by decide)).symm;go_wp2_with (at_builtin;refine qD rfl _ _ 113 rfl w.heap.size 3 i3 (.int .i64 0) 8 Tryz.underlying113 XF hz3a hz3b hz3c rfl vt1 _ _ rfl mw.lets _ rfl rfl (by decide) (by omega) Kf ?_;intro g2 c2 w2 hown2 hgrow2 hat2 hlt2;have hfz:w2.frozen? ⟨a,1,none⟩=false:=(by rw[World.frozen?_of_block (hgrow2.block a (by simp;omega) RG),(bG _ _).frozen (by exact GC)];exact hft);have ZM:w2.cell? ⟨a,1,none⟩=some vt1:=(hgrow2.cell (by rw[(bG _ _).cell (by exact GC)];exact hct) RG))
       ·go_meet
        case rel=>
         have YR:p1.fR k=p1.dD k:=by rw[RP.fR,jb (by simpa [cx]using‹(word (p1.line k) 0==_)=true›)]
         rw[YR];exact ZN.dD mw hown2 hgrow2 (fun g hg=>by
          simp only[Value.ownBlock,Option.some.injEq]at hg;subst hg;simpa using hat2)
       ·go_meet
        case rel=>
         have YR:p1.fR k=p1:=by rw[RP.fR,ja (by simpa [cx]using‹(word (p1.line k) 0==_)=false›)]
         rw[YR];exact ZN
      case rest=>
       have Qa:Hid (word (p1.line k) 0=aR->p1.mark k=(p1.fR k).addBlock k):=fun e=>RP.Lr e
       have hmn:Hid (¬word (p1.line k) 0=aR->p1.mark k=p1.fR k):=fun e=>RP.OU e
       have Dh:k<(p1.fR k).lines.length:=by rw[RP.Ia];exact tn
       have xt:(p1.fR k).line k=p1.line k:=RP.Lq _ _ _;have hfew3:(p1.fR k).blocks.length<4000:=by unfold RP.fR;split<;>exact ZU
       clear kq vB oa xQ hw qT yR Xx;generalize p1.fR k=p2 at*;have yR:=hcut.yc hokm;obtain⟨gL,capL,gl,dt,kq,vB,oa,xQ,hw⟩:=yR.gH k Dh;rw[xt]at oa xQ hw;have qT:=hw 0 (by omega);have hi32:(k:Int)<p2.lines.length:=by omega
       have hsz2:=hokm.size;have We:=hcut;obtain⟨⟨vl1,vt1,vb1,us1,mw⟩,RI,hrow1⟩:=hcut;have hct:wc.cell? ⟨a,2,none⟩=some vb1:=by have:=cell_of_heap mw.aJ 2;exact this
       have hft:wc.frozen? ⟨a,2,none⟩=false:=by have:=frozen_of_heap mw.aJ 2;exact this
       have Kf:=RI.size;have GC:a<wc.heap.size:=mw.lt;have RG:some a≠vb1.ownBlock:=(au mw.blocks mw.aJ (by decide)).symm;clear hw xt yR;go_wp2_with (at_builtin;refine qD rfl _ _ 113 rfl w.heap.size 3 i3 (.int .i64 0) 8 Tryz.underlying113 XF hz3a hz3b hz3c rfl vb1 _ _ rfl mw.blocks _ rfl rfl (by decide) (by omega) Kf ?_;intro g2 c2 w2 hown2 hgrow2 hat2 hlt2;have hfz:w2.frozen? ⟨a,2,none⟩=false:=(by rw[World.frozen?_of_block (hgrow2.block a (by simp;omega) RG),(bG _ _).frozen (by exact GC)];exact hft);have ZM:w2.cell? ⟨a,2,none⟩=some vb1:=(hgrow2.cell (by rw[(bG _ _).cell (by exact GC)];exact hct) RG))
       ·go_roundw
        case rel=>
         refine⟨k+1,p1.mark k,by omega,by go_num,?_,Ue⟩;rw[Qa.out (by simpa [aR]using‹(word (p1.line k) 0==_)=true›)];exact We.addBlock mw hown2 hgrow2 (fun g hg=>by
          simp only[Value.ownBlock,Option.some.injEq]at hg;subst hg;simpa using hat2)
        case measure=>simp[intOf];omega
       ·go_roundw
        case rel=>
         refine⟨k+1,p1.mark k,by omega,by go_num,?_,Ue⟩;rw[hmn.out (by simpa [aR]using‹(word (p1.line k) 0==_)=false›)];exact We
        case measure=>simp[intOf];omega
   ·obtain rfl:k=(split 10 text).length:=by omega
    have HR:Hid (_=_):=IK h1 H2.out HP.out.read;have cf:=HP.out.ok;have HLO:Hid (∀j,j<(split 10 text).length->p.gO j):=HP.out.Sf;have HN:Hid (p.lines.length=(split 10 text).length):=HP.out.length (jC _);have yR:=hH.yc cf;have De:=cf.ta;obtain⟨bb,cb,RA⟩:=yR.px;have FG:=iu p a (split 10 text).length wr yR cf (by rw[HN.out];omega);clear HP dj aL H2 hk;by_cases lg:p.inside (split 10 text).length=true
    ·have hx:aK text raw=(none,2,(split 10 text).length):=by rw[HR.out,jb (.inl lg)]
     rw[lg]at FG;clear HR lg;go_wp2_with (go_at_call 69;refine FG.mono ?_;rintro e w' ⟨rfl,n,rfl⟩)
     go_ret3
     exact mK (hH.drewN n).br hx
    ·by_cases fC:p.blocks.length=0
     ·have hx:aK text raw=(none,2,(split 10 text).length):=by rw[HR.out,jb (.inr fC)]
      rw[Bool.not_eq_true]at lg;rw[lg]at FG;clear HR lg;go_wp2_with (go_at_call 69;refine FG.mono ?_;rintro e w' ⟨rfl,n,rfl⟩)
      go_ret3
      exact mK (hH.drewN n).br hx
     ·have kd:Hid (aK text raw=match bp p.names ((split 10 text).length-0) 0 with
        |some i=>(none,3,i)
        |none=>match bp p.cz ((split 10 text).length-0) 0 with
         |some i=>(none,4,i)
         |none=>(some p,0,0)):=by rw[HR.out,ja (not_or.mpr ⟨lg,fC⟩)];rfl
      rw[Bool.not_eq_true]at lg;rw[lg]at FG;have aw:((p.blocks.length:Int)==0)=false:=by rw[jZ];omega
      clear HR lg fC;go_wp2_with (go_at_call 69;refine FG.mono ?_;rintro e w' ⟨rfl,n,rfl⟩)
      obtain⟨wo,hwo⟩:∃wo:World,wo=wr:=⟨_,rfl⟩;subst hwo;go_loopg [12] ((split 10 text).length) (fun gk i wn=>∃(k m:Nat),k<=(split 10 text).length/\gk+k=(split 10 text).length/\i=.int .i64 k/\wn=wo.drewN m/\Hid (bp p.names ((split 10 text).length-0) 0=bp p.names ((split 10 text).length-k) k))
      case atStart=>exact⟨0,n,jQ _,rfl,rfl,rfl,rfl⟩
      case round=>
       obtain⟨k,m,hk,GI,rfl,rfl,HI⟩:=hrel;by_cases aL:k<(split 10 text).length
       ·have HS:Hid (_=_):=sE p.names _ k aL;have HNm:=Sw p a k (wo.drewN m) (yR.drewN m) cf (by rw[HN.out];exact aL) (HLO.out k aL);clear FG;cases Kp:p.names k
        ·have hx:aK text raw=(none,3,k):=by rw[kd.out,HI.out,HS.out,Kp];rfl
         rw[Kp]at HNm;clear Kp;go_wp2_with (go_at_call 70;refine HNm.mono ?_;rintro e w' ⟨rfl,nn,rfl⟩)
         go_ret3
         exact mK (hH.drewN (m+nn)).br hx
        ·have hx:Hid (bp p.names ((split 10 text).length-k) k=bp p.names ((split 10 text).length-(k+1)) (k+1)):=by unfold Hid;rw[HS.out,Kp];rfl
         rw[Kp]at HNm;clear Kp;go_wp2_with (go_at_call 70;refine HNm.mono ?_;rintro e w' ⟨rfl,nn,rfl⟩)
         go_roundg ((split 10 text).length-(k+1))
         case rel=>exact⟨k+1,m+nn,by omega,by omega,by go_num,by simp,by rw[HI.out,hx.out];rfl⟩
         case measure=>omega
       ·have HA:Hid (∀j,j<(split 10 text).length->p.names j=true):=fun j hj=>lH p.names _ 0 (by rw[HI.out,show(split 10 text).length-k=0 by omega];rfl) j (by omega) (by omega)
        have HR3:Hid (aK text raw=match bp p.cz ((split 10 text).length-0) 0 with
         |some i=>(none,4,i)
         |none=>(some p,0,0)):=by
         unfold Hid;rw[kd.out,HI.out,show(split 10 text).length-k=0 by omega];rfl
        clear kd HI FG;go_wp2
        clear aL hk;go_loopg [14] ((split 10 text).length) (fun gk i wn=>∃(k m:Nat),k<=(split 10 text).length/\gk+k=(split 10 text).length/\i=.int .i64 k/\wn=wo.drewN m/\Hid (bp p.cz ((split 10 text).length-0) 0=bp p.cz ((split 10 text).length-k) k))
        case atStart=>exact⟨0,m,jQ _,rfl,rfl,rfl,rfl⟩
        case round=>
         obtain⟨k,m,hk,GI,rfl,rfl,HI⟩:=hrel;by_cases aL:k<(split 10 text).length
         ·have HS:Hid (_=_):=sE p.cz _ k aL;have tN:k<p.lines.length:=by rw[HN.out];exact aL
          obtain⟨gL,capL,gl,dt,kq,vB,oa,xQ,hw⟩:=yR.gH k tN;have FF:=cf.words k tN;have qT:=hw 0 (by omega);have hi30:(0:Int)<(p.line k).length:=by omega
          have hi31:(k:Int)<p.lines.length:=by omega
          have hszp:=cf.size;clear hw;by_cases ew:word (p.line k) 0=cx
          ·have ql:(word (p.line k) 0==[108,101,116])=true:=by rw[ew];rfl
           have hx:Hid (bp p.cz ((split 10 text).length-k) k=bp p.cz ((split 10 text).length-(k+1)) (k+1)):=by unfold Hid;rw[HS.out,jb (by simp[RP.cz,ew])]
           clear ew;go_wp2
           go_roundg ((split 10 text).length-(k+1))
           case rel=>exact⟨k+1,m,by omega,by omega,by go_num,rfl,by rw[HI.out,hx.out];rfl⟩
           case measure=>omega
          ·have ql:(word (p.line k) 0==[108,101,116])=false:=by simpa [cx]using ew
           by_cases bV:word (p.line k) 0=aR
           ·have B7:(word (p.line k) 0==[98,108,111,99,107])=true:=by rw[bV];rfl
            have hx:Hid (bp p.cz ((split 10 text).length-k) k=bp p.cz ((split 10 text).length-(k+1)) (k+1)):=by unfold Hid;rw[HS.out,jb (by simp[RP.cz,bV])]
            clear ew bV;go_wp2
            go_roundg ((split 10 text).length-(k+1))
            case rel=>exact⟨k+1,m,by omega,by omega,by go_num,rfl,by rw[HI.out,hx.out];rfl⟩
            case measure=>omega
           ·have B7:(word (p.line k) 0==[98,108,111,99,107])=false:=by simpa [aR]using bV
            have Va:Hid (p.cz k=p.types k):=by unfold Hid RP.cz;rw[show(word (p.line k) 0==cx)=false from ql,show(word (p.line k) 0==aR)=false from B7];rfl
            have HTm:=TG p a k (wo.drewN m) (yR.drewN m) cf tN (HLO.out k aL) ew (HA.out k aL);clear ew bV;cases qv:p.types k
            ·have hx:aK text raw=(none,4,k):=by rw[HR3.out,HI.out,HS.out,Va.out,qv];rfl
             rw[qv]at HTm;clear qv;go_wp2_with (go_at_call 71;refine HTm.mono ?_;rintro e w' ⟨rfl,nn,rfl⟩)
             go_ret3
             exact mK (hH.drewN (m+nn)).br hx
            ·have hx:Hid (bp p.cz ((split 10 text).length-k) k=bp p.cz ((split 10 text).length-(k+1)) (k+1)):=by unfold Hid;rw[HS.out,Va.out,qv];rfl
             rw[qv]at HTm;clear qv;go_wp2_with (go_at_call 71;refine HTm.mono ?_;rintro e w' ⟨rfl,nn,rfl⟩)
             go_roundg ((split 10 text).length-(k+1))
             case rel=>exact⟨k+1,m+nn,by omega,by omega,by go_num,by simp,by rw[HI.out,hx.out];rfl⟩
             case measure=>omega
         ·have hx:aK text raw=(some p,0,0):=by rw[HR3.out,HI.out,show(split 10 text).length-k=0 by omega];rfl
          clear HR3 HI;go_wp2
          go_ret3
          exact Po (hH.drewN m) cf hx
set_option maxRecDepth 20000 in
set_option maxHeartbeats 1000000 in
theorem ye (text:B)(raw:Bool)(w:World)(h:text.length<=1099511627776)(h1:4000<(split 10 text).length\/(raw=false/\120<(split 10 text).length)):
  Calls Tryz.prog 46 #[.string (bs text),.bool raw] w (qA text raw w):=by
 have hx:aK text raw=(none,1,0):=by rw[aK,jb h1]
 have hlen:=lQ 10 text;by_cases h4:4000<(split 10 text).length
 ·clear h1;go_enter Tryz.func46,Tryz.ntmps46
  go_wp2_with (go_at_call 67;refine(rA text _ h).mono ?_;rintro e w1 ⟨g0,c0,rfl,ho0,fC⟩)
  go_ret3
  exact mK fC hx
 ·obtain⟨rfl,h5⟩:raw=false/\120<(split 10 text).length:=h1.resolve_left h4;clear h1;go_enter Tryz.func46,Tryz.ntmps46
  go_wp2_with (go_at_call 67;refine(rA text _ h).mono ?_;rintro e w1 ⟨g0,c0,rfl,ho0,fC⟩)
  go_ret3
  exact mK fC hx
theorem S5 (text:B)(raw:Bool)(w:World)(h:text.length<=1099511627776):Calls Tryz.prog 46 #[.string (bs text),.bool raw] w (qA text raw w):=by
 by_cases hl:4000<(split 10 text).length\/(raw=false/\120<(split 10 text).length)
 ·exact ye text raw w h hl
 ·simp only[not_or,not_and]at hl;exact Pu text raw w h (by omega) (fun e=>by have:=hl.2 e;omega)
end RefM
namespace PrjX
open Go Go.RowKit Sq Aux PrjF PrjG PrjJ PrjK PrjW RefM
set_option maxRecDepth 20000 in
theorem Pt (text:B)(w:World)(h:text.length<=1048576)(E:Env w):Calls Tryz.prog 53 #[.string (bs text)] w (dW text false w):=by
 have K:=Pp text false w h E
 replace K:=K.mono (R':=fun e w'=>∃v,e=.returned (.tuple #[v,.int .i64 ((bd text false).2.1:Nat),.int .i64 ((bd text false).2.2:Nat)])/\dW text false w (.returned (.tuple #[v,.int .i64 ((bd text false).2.1:Nat),.int .i64 ((bd text false).2.2:Nat)])) w') fun e w' hp=>by
  have Cr:=hp;obtain⟨-,v,rfl,-⟩:=Cr;exact⟨v,rfl,hp⟩
 generalize (bd text false).2.1=c1 at K;generalize (bd text false).2.2=c2 at K;have K2:Calls Tryz.prog 72 #[.agg #[.bool false,.int .i64 120,.int .i64 20],.string (bs text)] w _:=K;go_enter Tryz.func53,Tryz.ntmps53
 go_wp2_with (go_at_call 72;refine K2.mono ?_;rintro e w1 ⟨v,rfl,hp⟩)
 go_ret3
 exact hp
theorem M6 (n:Int)(w:World):Calls Tryz.prog 35 #[.int .i64 n] w fun e w'=>e=.returned (.int .i64 n)/\w'=w:=by
 go_enter Tryz.func35,Tryz.ntmps35
 go_wp2
 go_ret
 exact⟨rfl,rfl⟩
end PrjX
namespace FlwZ
open Go Go.RowKit Sq Aux PrjF PrjG PrjJ PrjK PrjM PrjS PrjW PrjX RefM FlwF FlwI FlwK FlwM FlwO FlwP FlwQ FlwR FlwV FlwX FlwY
theorem IF {text:B}{raw:Bool}{c k:Nat}(h:bd text raw=(none,c,k)):1<=c/\aK text raw=(none,c,k):=by
 have hc:1<=c:=by
  by_cases dj:(split 10 text).length>(if raw then 4000 else 120)
  ·rw[bd,jb dj]at h;simp only[Prod.mk.injEq]at h;omega
  ·rw[bd,ja dj]at h;split at h
   ·simp only[Prod.mk.injEq]at h;omega
   ·split at h
    ·simp only[Prod.mk.injEq]at h;omega
    ·split at h
     ·simp only[Prod.mk.injEq]at h;omega
     ·split at h
      ·simp only[Prod.mk.injEq]at h;omega
      ·cases h
 refine⟨hc,?_⟩;have h2:=(yf text raw).1;rw[h]at h2;simp only at h2;cases hr:aK text raw with
 |mk op ck=>
  rw[hr]at h2;simp only at h2;subst h2;cases op with
  |none=>rfl
  |some p=>have:=(jz hr).2.1;omega
theorem EY {text:B}{raw:Bool}{q:QP}{c k:Nat}(h:bd text raw=(some q,c,k)):c=0/\k=0/\∃p,aK text raw=(some p,0,0)/\fj text raw p q:=by
 obtain⟨p,hb⟩:=Px (text:=text) (raw:=raw) (q:=q) (by rw[h]);have h2:=(yf text raw).1;have e:aK text raw=(some p,(aK text raw).2.1,(aK text raw).2.2):=by rw[<-hb.ref]
 obtain⟨-,e1,e2,-⟩:=jz e;have e3:aK text raw=(some p,0,0):=by rw[e,e1,e2]
 rw[h,e3]at h2;simp only[Prod.mk.injEq]at h2;exact⟨h2.1,h2.2,p,e3,hb⟩
theorem N6 {z a:Nat}{w w':World}{q:QP}(h:Fz z a w q)(hb:Below w.heap.size w w'):Fz z a w' q:=by
 obtain⟨vl,vb,us,vss,hp⟩:=h.at_;exact⟨⟨vl,vb,us,vss,hp.below hb⟩,h.ok,h.locals,h.blocks,h.lines⟩
theorem Ap {text:B}{p:RP}{q:QP}(h:fj text false p q):0<q.blocks.length:=by
 rw[h.len];exact h.ok.first.1
theorem Q8 {text:B}{p:RP}{q:QP}{z a:Nat}{w:World}(hB:fj text false p q)(hG:Fz z a w q):Calls Tryz.prog 54 #[.pointer (some ⟨a,0,none⟩)] w fun e w'=>
  (∃E',lB text p q E'/\e=.returned (CS (aC (cV q E') q.blocks.length 0)))/\Below w.heap.size w w':=by
 obtain⟨vl,vb,us,vss,hp⟩:=hG.at_;refine(z8 hp (Ap hB) hG.blocks hB.aW hB.Yo hG.lines (Qi q) (KZ q (Ap hB)) (fun E O b _ _ hb hO hI=>Ov q hB.Yo hB.aW E O b hb hO hI)).mono ?_;rintro e w' ⟨⟨E',-,-,hI,rfl⟩,hb⟩;exact⟨⟨E',⟨hB,hI,(Ap hB)⟩,rfl⟩,hb⟩
def rL (text:B)(w:World)(e:Ending)(w':World):Prop:=
 Below w.heap.size w w'/\((∃c k:Nat,1<=c/\aK text false=(none,c,k)/\e=.returned (.tuple #[.pointer none,.int .i64 (c:Int),.int .i64 (k:Int)]))\/
  ∃p q E,aK text false=(some p,0,0)/\bd text false=(some q,0,0)/\lB text p q E/\((∃n:Nat,aC (cV q E) q.blocks.length 0=some n/\e=.returned (.tuple #[.pointer none,.int .i64 5,.int .i64 (n:Int)]))\/
   (aC (cV q E) q.blocks.length 0=none/\∃a z,e=.returned (.tuple #[.pointer (some ⟨a,0,none⟩),.int .i64 0,.int .i64 0])/\w.heap.size<=z/\Fz z a w' q)))
def mg (text:B)(c k:Int):Prop:=(∃c' k':Nat,1<=c'/\aK text false=(none,c',k')/\c=c'/\k=k')\/
  ∃p q E,aK text false=(some p,0,0)/\bd text false=(some q,0,0)/\lB text p q E/\((∃n:Nat,aC (cV q E) q.blocks.length 0=some n/\c=5/\k=n)\/(aC (cV q E) q.blocks.length 0=none/\c=0/\k=0))
end FlwZ
namespace FlwZa
open Go Go.RowKit Sq Aux PrjF PrjG PrjJ PrjK PrjM PrjW PrjX RefM FlwP FlwQ FlwV FlwY FlwZ
set_option maxRecDepth 20000 in
set_option maxHeartbeats 1000000 in
theorem EV (text:B)(w:World)(h:text.length<=1048576)(E:Env w):Calls Tryz.prog 38 #[.string (bs text)] w (rL text w):=by
 have Ud:=Pt text w h E;go_enter Tryz.func38,Tryz.ntmps38
 cases hr:bd text false with
 |mk op ck=>
  obtain⟨c,k⟩:=ck;cases op with
  |none=>
   obtain⟨kq,oa⟩:=IF hr;have FC:((c:Int)==0)=false:=by simp;omega
   have HR:Hid (_=_):=hr;have kd:Hid (_=_):=oa;go_wp2_with (go_at_call 53;refine Ud.mono ?_;rintro e w1 ⟨aw,v,rfl,hv⟩;rw[HR.out]at hv;obtain⟨-,rfl⟩:True/\v=.pointer none:=(by rcases hv with⟨-,hv⟩|⟨p,a,z,hp,-⟩;exact⟨trivial,hv⟩;cases hp);have tQ:Hid (Below w.heap.size w w1):=aw;simp only[HR.out])
   go_ret3
   exact⟨tQ.out,.inl ⟨c,k,kq,kd.out,rfl⟩⟩
  |some q=>
   obtain⟨rfl,rfl,p,hp,hB⟩:=EY hr;have HR:Hid (_=_):=hr;have HP:Hid (_=_):=hp;have HB:Hid (_):=hB;clear hr hp hB;go_upto_region 4 with(go_at_call 53;refine Ud.mono ?_;rintro e w1 ⟨aw,v,rfl,hv⟩;rw[HR.out]at hv;obtain⟨a,z,rfl,hz,hG⟩:∃a z,v=.pointer (some ⟨a,0,none⟩)/\Hid (w.heap.size<=z)/\Hid (Fz z a w1 q):=(by rcases hv with⟨hv,-⟩|⟨q',a,z,hq,hv,hz,hg⟩;(cases hv);(cases hq;exact⟨a,z,hv,hz,hg⟩));have tQ:Hid (Below w.heap.size w w1):=aw;clear hv aw;simp only[HR.out])
   have HF:=Q8 HB.out hG.out;go_upto_region 5 with(go_at_call 54;refine HF.mono ?_;rintro e w2 ⟨⟨E',hD,rfl⟩,bU⟩;have HD:Hid (_):=hD;have Y6:Hid (_):=bU;clear hD bU;rw[tZ];obtain⟨r,hr⟩:∃r,Hid (aC (cV q E') q.blocks.length 0=r):=⟨_,rfl⟩;rw[hr.out])
   clear HF Ud;have HW:Hid (Below w.heap.size w w2):=tQ.out.trans (Y6.out.mono tQ.out.size);cases r with
   |none=>
    simp only[Option.isSome_none];go_wp2
    go_ret3
    exact⟨HW.out,.inr ⟨p,q,E',HP.out,HR.out,HD.out,.inr ⟨hr.out,a,z,rfl,hz.out,N6 hG.out Y6.out⟩⟩⟩
   |some n=>
    simp only[Option.isSome_some,Option.getD_some];go_wp2
    go_ret3
    exact⟨HW.out,.inr ⟨p,q,E',HP.out,HR.out,HD.out,.inl ⟨n,hr.out,rfl⟩⟩⟩
def Vy:B:=[108,101,116,32,110,32,105,110,116,10,108,101,116,32,112,32,98,111,120,10,98,108,111,99,107,10,115,101,116,32,110,32,53,10,110,101,119,32,112,32,110,10,108,111,97,100,32,110,32,112,10,101,110,100,32,110]
end FlwZa
namespace Aux
open Go Go.RowKit Sq RefR
def lM (o:Oper):Operand:=match o.op with| .load _ x=>x|_=> .tmp 0
def iH (o:Oper):Bool:=match o.op with| .load t _=>t==155|_=>false
def lS (o:Oper):Operand:=match o.op with| .store _ x _=>x|_=> .tmp 0
def iJ (o:Oper):Operand:=match o.op with| .store _ _ y=>y|_=> .tmp 0
def gx (o:Oper):Bool:=match o.op with| .store t _ _=>t==155|_=>false
section
variable (o:Oper) (a:Act) (w:World) (K:Act->World->Prop) (Q:Exit->Act->World->Prop)
theorem qe (hl:iH o=true)(h:rP w (a.eval (lM o))):Oper.wp Tryz.prog o a w K Q=K (a.put o.dst (.agg (B1 w (jy (a.eval (lM o)))))) w:=by
 obtain⟨d,op,t,ps,af,g⟩:=o;unfold iH at hl;split at hl
 ·rename_i t' x heq;simp only at heq;subst heq;obtain rfl:t'=155:=by simpa using hl
  exact dd d x t ps af g a w K Q h
 ·cases hl
theorem oA (hl:gx o=true)(h:rP w (a.eval (lS o)))(h':rK (a.eval (iJ o))):Oper.wp Tryz.prog o a w K Q=K (a.put o.dst undef) (w.setCells (jy (a.eval (lS o))) 0 (qC (a.eval (iJ o))).toList):=by
 obtain⟨d,op,t,ps,af,g⟩:=o;unfold gx at hl;split at hl
 ·rename_i t' x y heq;simp only at heq;subst heq;obtain rfl:t'=155:=by simpa using hl
  exact cH d x y t ps af g a w K Q h h'
 ·cases hl
end
end Aux
namespace Aux
open Go Go.RowKit Sq RefR
def aT (w:World)(g:Nat)(L:List WS):Prop:=
 ∃cs,w.heap[g]?=some (.cells cs 155 (0,0))/\cs.size=25*L.length/\∀i j,i<L.length->j<25->cs[i*25+j]?=(lw L i).cells[j]?
section
variable {w w':World} {g:Nat} {L:List WS}
theorem aT.lt (h:aT w g L):g<w.heap.size:=by
 obtain⟨cs,h,-⟩:=h;rw[Array.getElem?_eq_some_iff]at h;exact h.1
theorem aT.below (h:aT w g L)(hb:Below w.heap.size w w'):aT w' g L:=by
 have hl:=h.lt;obtain⟨cs,h,h'⟩:=h;exact⟨cs,by rw[hb.block g hl];exact h,h'⟩
theorem aT.drew (h:aT w g L):aT w.drew g L:=h
theorem aT.drewN (h:aT w g L)(n:Nat):aT (w.drewN n) g L:=h
theorem aT.range (h:aT w g L)(hr:cP L)(i:Nat)(hi:i<L.length):w.rangeAt g (i*25) (lw L i).cells:=fun j v hv=>by
 obtain⟨cs,h,-,h'⟩:=h;have hj:j<25:=by
  rw[<-WS.cT (hr.fe i).ok];exact(List.getElem?_eq_some_iff.mp hv).1
 rw[cell_of_heap h,h' i j hi hj];exact hv
theorem aT.there (h:aT w g L)(i:Nat)(hi:i<L.length):w.there g (i*25) 25:=fun j hj=>by
 obtain⟨cs,h,hs,h'⟩:=h;rw[cell_of_heap h,frozen_of_heap h];have:i*25+j<cs.size:=by rw[hs];omega
 simp[this]
theorem aT.known (h:aT w g L)(i:Nat)(hi:i<L.length):w.cell? ⟨g,i*25,none⟩=some (.bool (lw L i).known):=by
 obtain⟨cs,h,-,h'⟩:=h;rw[cell_of_heap h,show i*25=i*25+0 by omega,h' i 0 hi (by omega)];rfl
theorem aT.frozen (h:aT w g L)(o:Nat):w.frozen? ⟨g,o,none⟩=false:=by
 obtain⟨cs,h,-⟩:=h;exact frozen_of_heap h o
theorem aT.store (h:aT w g L)(i:Nat)(hi:i<L.length){t:WS}(ht:t.Ok):aT (w.setCells g (i*25) t.cells) g (L.set i t):=by
 obtain⟨cs,h,hs,h'⟩:=h;obtain⟨cs',h1,h2,h3⟩:=eL g t.cells (i*25) w _ _ _ h;have hl:=WS.cT ht;refine⟨cs',h1,by rw[h2,hs];simp,fun a j ha hj=> ?_⟩;rw[List.length_set]at ha;rw[h3,lj L i t hi,hl];by_cases hai:a=i
 ·subst hai;rw[jb (by omega),jb rfl,show a*25+j-a*25=j by omega]
 ·rw[ja (by omega),ja hai];exact h' a j ha hj
theorem aT.other {b:Nat}(h:aT w g L)(ec:g≠b)(o:Nat)(vs:List Value):aT (w.setCells b o vs) g L:=by
 obtain⟨cs,h,h'⟩:=h;exact⟨cs,by rw[de b vs o w g ec];exact h,h'⟩
theorem aT.setCell (h:aT w g L)(i j:Nat)(hi:i<L.length)(hj:j<25)(v:Value){t:WS}(ht:t.Ok)(he:t.cells=(lw L i).cells.set j v):aT (w.setCell ⟨g,i*25+j,none⟩ v) g (L.set i t):=by
 obtain⟨cs,h,hs,h'⟩:=h;refine⟨_,heap_setCell_same h _ v,by simp[hs],fun a k ha hk=> ?_⟩;rw[List.length_set]at ha;rw[Array.getElem?_setIfInBounds,lj L i t hi];by_cases hai:a=i
 ·subst hai;rw[jb rfl,he,jd];by_cases hjk:j=k
  ·subst hjk;have hl:=WS.cT ht;rw[he,List.length_set]at hl;rw[jb rfl,jb (by rw[hs];omega),jb rfl,jb (by omega)]
  ·rw[ja (by omega),ja hjk];exact h' a k ha hk
 ·rw[ja (by omega),ja hai];exact h' a k ha hk
end
def dE (w:World)(b o:Nat):Array Value:=((List.range 25).map fun j=>(w.cell? ⟨b,o+j,none⟩).getD undef).toArray
def qh (w:World)(b o:Nat):Prop:=∃s:WS,s.Ok/\w.rangeAt b o s.cells/\w.there b o 25
theorem yv {w:World}{b o:Nat}{s:WS}(hs:s.Ok)(h:w.rangeAt b o s.cells):dE w b o=s.cells.toArray:=by
 unfold dE;congr 1;apply List.ext_getElem?
 intro j;rw[jJ];have hl:=WS.cT hs;by_cases hj:j<25
 ·rw[List.getElem?_range hj,Option.map_some];have hv:s.cells[j]?=some s.cells[j]:=jB _;rw[h j _ hv,hv];rfl
 ·rw[jG (by simp;omega),jG (by rw[hl];omega)];rfl
def pR:Value->Nat
 | .pointer (some ad)=>ad.off
 |_=>0
def xv (w:World)(v:Value):Prop:=∃b o,v=.pointer (some ⟨b,o,none⟩)/\qh w b o
@[simp] theorem mL (ad : Addr) : pR (.pointer (some ad)) = ad.off := rfl
@[simp] theorem Yn (w : World) (b o : Nat) : xv w (.pointer (some ⟨b, o, none⟩)) = qh w b o := by
 simp only[xv,Value.pointer.injEq,Option.some.injEq,Addr.mk.injEq,and_true,eq_iff_iff];exact⟨fun⟨b',o',⟨h1,h2⟩,h⟩=>by rw[h1,h2];exact h,fun h=>⟨b,o,⟨rfl,rfl⟩,h⟩⟩
theorem Lm (w:World)(b o:Nat)(h:qh w b o):(loadVar 155 ⟨b,o,none⟩).run Tryz.prog w=.ok (.agg (dE w b o)) w:=by
 obtain⟨s,hs,hr,ht⟩:=h;rw[yv hs hr];exact run_loadVar_mid w b o 155 s.cells _ hr Tryz.underlying155 rfl (eD hs)
theorem I5 (w:World)(b o:Nat)(xs:Array Value)(h:qh w b o)(hx:dh xs):(storeVar 155 ⟨b,o,none⟩ (.agg xs)).run Tryz.prog w=.ok () (w.setCells b o xs.toList):=by
 obtain⟨s,hs,hr,ht⟩:=h;obtain⟨t,Om,rfl⟩:=hx;refine run_storeVar_mid w b o 155 t.cells.toArray ?_ (ov Om) (all_oneCell_toArray (WS.xE t))
 rwa [<-WS.cT Om,<-List.size_toArray]at ht
section
variable (d:Option Tmp) (x y:Operand) (t:TypeId) (ps:String) (af:Array Edge) (g:Option (Nat×Bool)) (a:Act) (w:World) (K:Act->World->Prop) (Q:Exit->Act->World->Prop)
theorem mO (h:xv w (a.eval x)):Oper.wp Tryz.prog {dst:=d,op:=Op.load 155 x,type:=t,pos:=ps,after:=af,guard:=g} a w K Q=K (a.put d (.agg (dE w (jy (a.eval x)) (pR (a.eval x))))) w:=by
 obtain⟨b,o,hb,hh⟩:=h;have:=Lm w b o hh;unfold Oper.wp execOp;simp only[hb,Instr.loadAt,Instr.sureAddr,Sem.run_bind,Sem.run_pure,Result.andThen_ok,this,lO,mL];rfl
theorem kY (h:xv w (a.eval x))(h':rK (a.eval y)):Oper.wp Tryz.prog {dst:=d,op:=Op.store 155 x y,type:=t,pos:=ps,after:=af,guard:=g} a w K Q=K (a.put d undef) (w.setCells (jy (a.eval x)) (pR (a.eval x)) (qC (a.eval y)).toList):=by
 obtain⟨b,o,hb,hh⟩:=h;obtain⟨xs,hy,hx⟩:=h';have:=I5 w b o xs hh hx;unfold Oper.wp execOp;simp only[hb,hy,Instr.storeAt,Instr.sureAddr,Sem.run_bind,Sem.run_pure,Result.andThen_ok,this,lO,mL,tX];rfl
end
section
variable (o:Oper) (a:Act) (w:World) (K:Act->World->Prop) (Q:Exit->Act->World->Prop)
theorem zu (hl:iH o=true)(h:xv w (a.eval (lM o))):Oper.wp Tryz.prog o a w K Q=K (a.put o.dst (.agg (dE w (jy (a.eval (lM o))) (pR (a.eval (lM o)))))) w:=by
 obtain⟨d,op,t,ps,af,g⟩:=o;unfold iH at hl;split at hl
 ·rename_i t' x heq;simp only at heq;subst heq;obtain rfl:t'=155:=by simpa using hl
  exact mO d x t ps af g a w K Q h
 ·cases hl
theorem yy (hl:gx o=true)(h:xv w (a.eval (lS o)))(h':rK (a.eval (iJ o))):Oper.wp Tryz.prog o a w K Q=K (a.put o.dst undef) (w.setCells (jy (a.eval (lS o))) (pR (a.eval (lS o))) (qC (a.eval (iJ o))).toList):=by
 obtain⟨d,op,t,ps,af,g⟩:=o;unfold gx at hl;split at hl
 ·rename_i t' x y heq;simp only at heq;subst heq;obtain rfl:t'=155:=by simpa using hl
  exact kY d x y t ps af g a w K Q h h'
 ·cases hl
end
theorem aB.eC {w:World}{b:Nat}{s:WS}(h:aB w b s)(hs:s.Ok):qh w b 0:=⟨s,hs,h.range,h.there hs⟩
theorem aT.eC {w:World}{g:Nat}{L:List WS}(h:aT w g L)(hr:cP L)(i:Nat)(hi:i<L.length):qh w g (i*25):=⟨_,(hr.fe i).ok,h.range hr i hi,h.there i hi⟩
theorem aB.dE {w:World}{b:Nat}{s:WS}(h:aB w b s)(hs:s.Ok):Aux.dE w b 0=s.cells.toArray:=yv hs h.range
theorem aT.dE {w:World}{g:Nat}{L:List WS}(h:aT w g L)(hr:cP L)(i:Nat)(hi:i<L.length):Aux.dE w g (i*25)=(lw L i).cells.toArray:=yv (hr.fe i).ok (h.range hr i hi)
end Aux
end Go.Proofs.YtmlgajhhnojdjaaGreatDoor

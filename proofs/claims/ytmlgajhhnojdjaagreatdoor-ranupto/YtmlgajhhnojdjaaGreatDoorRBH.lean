import Derived.Test.YtmlgajhhnojdjaaGreatDoorRBG
namespace Go.Proofs.YtmlgajhhnojdjaaGreatDoor
namespace RefM
open Go.RowKit Sq RefA RefE RefF RefL RefN Aux
theorem DK (l:B)(c:UInt8)(w:World)(h:l.length<=1099511627776):
  Calls Tryz.prog 67 #[.string (bs l),.int .u8 c.toNat] w fun e w'=>∃g cap,e=.returned (.slice (some ⟨g,0,none⟩) (split c l).length cap)/\w'.ownsRow w.heap.size 9 1 (.slice (some ⟨g,0,none⟩) (split c l).length cap) (split c l).length (cellsOf (split c l))/\Below w.heap.size w w':=by
 refine(To l c w h).mono ?_;rintro e w' ⟨v,rfl,ho,hb⟩;have hl:1<=(split c l).length:=by
  have:=pa c l;cases hs:split c l with
  |nil=>exact absurd hs this
  |cons a b=>simp
 obtain⟨g,cap,rfl,-⟩:=ym ho hl;exact⟨g,cap,rfl,ho,hb⟩
theorem rA (l:B)(w:World)(h:l.length<=1099511627776):
  Calls Tryz.prog 67 #[.string (bs l),.int .u8 10] w fun e w'=>∃g cap,e=.returned (.slice (some ⟨g,0,none⟩) (split 10 l).length cap)/\w'.ownsRow w.heap.size 9 1 (.slice (some ⟨g,0,none⟩) (split 10 l).length cap) (split 10 l).length (cellsOf (split 10 l))/\Below w.heap.size w w':=DK l 10 w h
theorem I1 (l:B)(w:World)(h:l.length<=1099511627776):
  Calls Tryz.prog 67 #[.string (bs l),.int .u8 32] w fun e w'=>∃g cap,e=.returned (.slice (some ⟨g,0,none⟩) (split 32 l).length cap)/\w'.ownsRow w.heap.size 9 1 (.slice (some ⟨g,0,none⟩) (split 32 l).length cap) (split 32 l).length (cellsOf (split 32 l))/\Below w.heap.size w w':=DK l 32 w h
theorem Ot:(Tryz.prog.info? 34).map (fun i=>(i.zero,i.size,i.bytes))=some (some (.slice none 0 0),1,24):=by kernel_rfl
theorem A3:(Tryz.prog.info? 3).map (fun i=>(i.zero,i.size,i.bytes))=some (some (.int .i64 0),1,8):=by kernel_rfl
theorem LV (z:Nat)(w:World)(raw:Bool)(hz:z<=w.heap.size):j9 z w.heap.size (w.alloc (.cells #[.slice none 0 0,.slice none 0 0,.slice none 0 0,.bool raw] 128)) (Sq.start raw) (.slice none 0 0) (.slice none 0 0) (.slice none 0 0) []:=
 ⟨hz,by show(w.heap.push _)[w.heap.size]?=_;simp[Sq.start],World.ownsRow_nil _ _ _ _,fun j hj=>by simp at hj,World.ownsRow_nil _ _ _ _,World.ownsRow_nil _ _ _ _,.inl rfl⟩
def qA (text:B)(raw:Bool)(w:World)(e:Ending)(w':World):Prop:=
 Below w.heap.size w w'/\∃v,e=.returned (.tuple #[v,.int .i64 ((aK text raw).2.1:Int),.int .i64 ((aK text raw).2.2:Int)])/\
  ((aK text raw).1=none/\v=.pointer none\/∃p a,(aK text raw).1=some p/\v=.pointer (some ⟨a,0,none⟩)/\p.Ok/\∃vl vt vb us,j9 w.heap.size a w' p vl vt vb us)
theorem mK {text:B}{raw:Bool}{w w':World}{c k:Nat}(hb:Below w.heap.size w w')(h:aK text raw=(none,c,k)):qA text raw w (.returned (.tuple #[.pointer none,.int .i64 (c:Int),.int .i64 (k:Int)])) w':=
 ⟨hb,.pointer none,by rw[h],.inl ⟨by rw[h],rfl⟩⟩
theorem Po {text:B}{raw:Bool}{w w':World}{L:List B}{a:Nat}{v0:Value}{p:RP}(hh:lD L w a v0 w' p)(cf:p.Ok)(h:aK text raw=(some p,0,0)):qA text raw w (.returned (.tuple #[.pointer (some ⟨a,0,none⟩),.int .i64 0,.int .i64 0])) w':=
 ⟨hh.br,.pointer (some ⟨a,0,none⟩),by rw[h];rfl,.inr ⟨p,a,by rw[h],rfl,cf,hh.inv⟩⟩
theorem E0 {text:B}{raw:Bool}{k:Nat}{q:RP}(h1:(split 10 text).length<=4000)(h2:raw=false->(split 10 text).length<=120)(h:dx (aZ text) (Sq.start raw) 0=(q,some k)):aK text raw=(none,2,k):=by
 rw[aK,ja,h];rintro(h'|⟨h',h''⟩)
 ·omega
 ·have:=h2 h';omega
set_option maxRecDepth 20000 in
set_option maxHeartbeats 4000000 in
theorem Pu (text:B)(raw:Bool)(w:World)(h:text.length<=1099511627776)(h1:(split 10 text).length<=4000)(h2:raw=false->(split 10 text).length<=120):
  Calls Tryz.prog 46 #[.string (bs text),.bool raw] w (qA text raw w):=by
 have H2:Hid (raw=false->(split 10 text).length<=120):=h2;have dj:Hid (∀j,(word (split 10 text) j).length<=1099511627776):=fun j=>jS (eN 10 text j) h
 obtain⟨i34,hi34,hz34a,hz34b,hz34c⟩:=info_parts Ot;obtain⟨i3,XF,hz3a,hz3b,hz3c⟩:=info_parts A3;go_enter Tryz.func46,Tryz.ntmps46
 go_upto_region 2 with(go_at_call 67;refine(rA text _ h).mono ?_;rintro e w1 ⟨g0,c0,rfl,ho0,fC⟩)
 go_cut [29] (fun b wc=>wc=w1/\b=.bool false)
 case first=>
  cases raw
  ·have h3:=h2 rfl;clear h2;go_wp2
   go_meet
   case rel=>exact⟨rfl,by congr 1;simp;omega⟩
  ·clear h2;go_wp2
   go_meet
   case rel=>exact⟨rfl,by congr 1;simp;omega⟩
 case rest=>
  obtain⟨rfl,rfl⟩:=hcut;clear h2;go_wp2
  have X1:=fC.size;have RR:lD (split 10 text) w wc.heap.size (.slice (some ⟨g0,0,none⟩) (split 10 text).length c0) (wc.alloc (.cells #[.slice none 0 0,.slice none 0 0,.slice none 0 0,.bool raw] 128)) (Sq.start raw):=
   ⟨⟨_,_,_,_,LV w.heap.size wc raw X1⟩,fC.alloc X1 _,ho0.alloc _⟩
  generalize hA:wc.heap.size=a at*;clear hA;go_loopw [9] (fun i wr=>∃(k:Nat) (p:RP),k<=(split 10 text).length/\i=.int .i64 k/\lD (split 10 text) w a (.slice (some ⟨g0,0,none⟩) (split 10 text).length c0) wr p/\Hid (kK text raw k p)) (fun i _=>(split 10 text).length-(intOf i).toNat)
  case atStart=>exact⟨0,Sq.start raw,jQ _,rfl,RR,kK.start text raw⟩
  case round=>
   obtain⟨k,p,hk,rfl,hH,HP⟩:=hrel;clear RR ho0 fC X1;by_cases aL:k<(split 10 text).length
   ·have hHH:=hH;obtain⟨⟨vl,vt,vb,us,hinv⟩,hold,ga⟩:=hH;have AW:wr.cell? ⟨a,0,none⟩=some vl:=by rw[cell_of_heap hinv.aJ];rfl
    have P8:wr.frozen? ⟨a,0,none⟩=false:=frozen_of_heap hinv.aJ 0;obtain⟨g,cap,e,kM,TZ,aD⟩:=ym ga (by omega);simp only[Value.slice.injEq,Option.some.injEq,Addr.mk.injEq,and_true,true_and]at e;obtain⟨rfl,rfl⟩:=e;have hcx:=aD k aL;have YP:(k:Int)<(split 10 text).length:=by omega
    have qP:w.heap.size<=wr.heap.size:=hold.size;have halt:=hinv.lt;have Qb:=HP.out.ok.size;have XO:some a≠vl.ownBlock:=(au hinv.lines hinv.aJ (by decide)).symm;have HPK:Hid (p.lines.length=k):=HP.out.length (by omega);clear aD;go_upto_region 8 with fail
    go_cut [] (fun wc'=>lD (split 10 text) w a (.slice (some ⟨g0,0,none⟩) (split 10 text).length c0) wc' (p.addLine (split 32 (word (split 10 text) k))))
    case first=>
     go_region_law (first
       |(refine PM (by rfl) _ _ _ (by rfl) w.heap.size 34 i34 (.slice none 0 0) 24 Tryz.underlying126 hi34 hz34a hz34b hz34c (by rfl) _ _ _ (by rfl) (ay hinv.lines aw) _ (by rfl) (by rfl) (by decide) (by omega) (by have:=aw.size;omega) ?_;intro g2 c2 w2 hown2 hgrow2 hat2 hlt2;have hfz:w2.frozen? ⟨a,0,none⟩=false:=(by rw[World.frozen?_of_block (hgrow2.block a (by have:=aw.size;simp;omega) XO),(bG _ _).frozen (by exact X2),aw.frozen (by exact halt)];exact P8);have ZM:w2.cell? ⟨a,0,none⟩=some vl:=(hgrow2.cell (by rw[(bG _ _).cell (by exact X2)];exact hcl1) XO))
       |(go_simp;go_at_call 67;refine(I1 _ _ (dj.out k)).mono ?_;rintro e w1 ⟨g1,c1,rfl,YU,oN⟩;have aw:Below wr.heap.size wr w1:=JK oN;have hcl1:w1.cell? ⟨a,0,none⟩=some vl:=(by rw[aw.cell (by exact halt)];exact AW);have X2:a<w1.heap.size:=(by have:=aw.size;omega)))
     all_goals go_wp2_with fail
     all_goals
      go_meet
      case rel=>exact hHH.line hinv aw YU hown2 hgrow2
    case rest=>
     have WQ:Hid ((p.addLine (split 32 (word (split 10 text) k))).form k=false->aK text raw=(none,2,k)):=fun hf=>by
      obtain⟨q,hq⟩:=HP.out.bad aL hf;exact E0 h1 H2.out hq
     have Qg:Hid ((p.addLine (split 32 (word (split 10 text) k))).form k=true->kK text raw (k+1) ((p.addLine (split 32 (word (split 10 text) k))).mark k)):=fun hf=>HP.out.step h aL h1 hf
     have GN:=HP.out.SH h aL h1;have tn:k<(p.addLine (split 32 (word (split 10 text) k))).lines.length:=by have:=HPK.out;simp[RP.addLine];omega
     have xR:(p.addLine (split 32 (word (split 10 text) k))).lets.length<4000/\(p.addLine (split 32 (word (split 10 text) k))).blocks.length<4000:=by have:=HP.out.fe;simp[RP.addLine];omega
     clear AW P8 hcx XO HPK HP hinv ga hold hHH Qb halt qP TZ kM;generalize p.addLine (split 32 (word (split 10 text) k))=p1 at*;obtain⟨ZT,ZU⟩:=xR;have yR:=hcut.yc GN;have Y8:=Q9 p1 a k _ yR GN tn;obtain⟨gL,capL,gl,dt,kq,vB,oa,xQ,hw⟩:=yR.gH k tn;have FF:=GN.words k tn;have qT:=hw 0 (by omega);have hi30:(0:Int)<(p1.line k).length:=by omega
     have hi31:(k:Int)<p1.lines.length:=by omega
     have X2:=GN.size;cases hf:p1.form k
     ·rw[hf]at Y8;have hx:=WQ.out hf;clear WQ Qg hf;go_wp2_with (go_at_call 68;refine Y8.mono ?_;rintro e w' ⟨rfl,n,rfl⟩)
      go_ret3
      exact mK (hcut.drewN n).br hx
     ·rw[hf]at Y8;have HM:=Qg.out hf;have hokm:=GN.fR tn hf ZT;have Ue:Hid (kK text raw (k+1) (p1.mark k)):=HM;clear WQ Qg HM hf;go_upto_if 68 with(go_at_call 68;refine Y8.mono ?_;rintro e w' ⟨rfl,n,rfl⟩)
      clear Y8;have Xx:=hcut.drewN n;go_cut [] (fun wc2=>lD (split 10 text) w a (.slice (some ⟨g0,0,none⟩) (split 10 text).length c0) wc2 (p1.fR k))
      case first=>
       have ZN:=Xx;obtain⟨⟨vl1,vt1,vb1,us1,mw⟩,RI,hrow1⟩:=Xx;have hct:wc.cell? ⟨a,1,none⟩=some vt1:=by have:=cell_of_heap mw.aJ 1;exact this
       have hft:wc.frozen? ⟨a,1,none⟩=false:=by have:=frozen_of_heap mw.aJ 1;exact this
       have Kf:=RI.size;have GC:a<wc.heap.size:=mw.lt;have RG:some a≠vt1.ownBlock:=(au mw.lets mw.aJ (by decide)).symm;go_wp2_with (at_builtin;refine qD rfl _ _ 113 rfl w.heap.size 3 i3 (.int .i64 0) 8 Tryz.underlying113 XF hz3a hz3b hz3c rfl vt1 _ _ rfl mw.lets _ rfl rfl (by decide) (by omega) Kf ?_;intro g2 c2 w2 hown2 hgrow2 hat2 hlt2;have hfz:w2.frozen? ⟨a,1,none⟩=false:=(by rw[World.frozen?_of_block (hgrow2.block a (by simp;omega) RG),(bG _ _).frozen (by exact GC)];exact hft);have ZM:w2.cell? ⟨a,1,none⟩=some vt1:=(hgrow2.cell (by rw[(bG _ _).cell (by exact GC)];exact hct) RG))
       ·go_meet
        case rel=>
         have YR:p1.fR k=p1.dD k:=by rw[RP.fR,jb (by simpa [cx]using‹(word (p1.line k) 0==_)=true›)]
         rw[YR];exact ZN.dD mw hown2 hgrow2 (fun g hg=>by
          simp only[Value.ownBlock,Option.some.injEq]at hg;subst hg;simpa using hat2)
       ·go_meet
        case rel=>
         have YR:p1.fR k=p1:=by rw[RP.fR,ja (by simpa [cx]using‹(word (p1.line k) 0==_)=false›)]
         rw[YR];exact ZN
      case rest=>
       have Qa:Hid (word (p1.line k) 0=aR->p1.mark k=(p1.fR k).addBlock k):=fun e=>RP.Lr e
       have hmn:Hid (¬word (p1.line k) 0=aR->p1.mark k=p1.fR k):=fun e=>RP.OU e
       have Dh:k<(p1.fR k).lines.length:=by rw[RP.Ia];exact tn
       have xt:(p1.fR k).line k=p1.line k:=RP.Lq _ _ _;have hfew3:(p1.fR k).blocks.length<4000:=by unfold RP.fR;split<;>exact ZU
       clear kq vB oa xQ hw qT yR Xx;generalize p1.fR k=p2 at*;have yR:=hcut.yc hokm;obtain⟨gL,capL,gl,dt,kq,vB,oa,xQ,hw⟩:=yR.gH k Dh;rw[xt]at oa xQ hw;have qT:=hw 0 (by omega);have hi32:(k:Int)<p2.lines.length:=by omega
       have hsz2:=hokm.size;have We:=hcut;obtain⟨⟨vl1,vt1,vb1,us1,mw⟩,RI,hrow1⟩:=hcut;have hct:wc.cell? ⟨a,2,none⟩=some vb1:=by have:=cell_of_heap mw.aJ 2;exact this
       have hft:wc.frozen? ⟨a,2,none⟩=false:=by have:=frozen_of_heap mw.aJ 2;exact this
       have Kf:=RI.size;have GC:a<wc.heap.size:=mw.lt;have RG:some a≠vb1.ownBlock:=(au mw.blocks mw.aJ (by decide)).symm;clear hw xt yR;go_wp2_with (at_builtin;refine qD rfl _ _ 113 rfl w.heap.size 3 i3 (.int .i64 0) 8 Tryz.underlying113 XF hz3a hz3b hz3c rfl vb1 _ _ rfl mw.blocks _ rfl rfl (by decide) (by omega) Kf ?_;intro g2 c2 w2 hown2 hgrow2 hat2 hlt2;have hfz:w2.frozen? ⟨a,2,none⟩=false:=(by rw[World.frozen?_of_block (hgrow2.block a (by simp;omega) RG),(bG _ _).frozen (by exact GC)];exact hft);have ZM:w2.cell? ⟨a,2,none⟩=some vb1:=(hgrow2.cell (by rw[(bG _ _).cell (by exact GC)];exact hct) RG))
       ·go_roundw
        case rel=>
         refine⟨k+1,p1.mark k,by omega,by go_num,?_,Ue⟩;rw[Qa.out (by simpa [aR]using‹(word (p1.line k) 0==_)=true›)];exact We.addBlock mw hown2 hgrow2 (fun g hg=>by
          simp only[Value.ownBlock,Option.some.injEq]at hg;subst hg;simpa using hat2)
        case measure=>simp[intOf];omega
       ·go_roundw
        case rel=>
         refine⟨k+1,p1.mark k,by omega,by go_num,?_,Ue⟩;rw[hmn.out (by simpa [aR]using‹(word (p1.line k) 0==_)=false›)];exact We
        case measure=>simp[intOf];omega
   ·obtain rfl:k=(split 10 text).length:=by omega
    have HR:Hid (_=_):=IK h1 H2.out HP.out.read;have cf:=HP.out.ok;have HLO:Hid (∀j,j<(split 10 text).length->p.gO j):=HP.out.Sf;have HN:Hid (p.lines.length=(split 10 text).length):=HP.out.length (jC _);have yR:=hH.yc cf;have De:=cf.ta;obtain⟨bb,cb,RA⟩:=yR.px;have FG:=iu p a (split 10 text).length wr yR cf (by rw[HN.out];omega);clear HP dj aL H2 hk;by_cases lg:p.inside (split 10 text).length=true
    ·have hx:aK text raw=(none,2,(split 10 text).length):=by rw[HR.out,jb (.inl lg)]
     rw[lg]at FG;clear HR lg;go_wp2_with (go_at_call 69;refine FG.mono ?_;rintro e w' ⟨rfl,n,rfl⟩)
     go_ret3
     exact mK (hH.drewN n).br hx
    ·by_cases fC:p.blocks.length=0
     ·have hx:aK text raw=(none,2,(split 10 text).length):=by rw[HR.out,jb (.inr fC)]
      rw[Bool.not_eq_true]at lg;rw[lg]at FG;clear HR lg;go_wp2_with (go_at_call 69;refine FG.mono ?_;rintro e w' ⟨rfl,n,rfl⟩)
      go_ret3
      exact mK (hH.drewN n).br hx
     ·have kd:Hid (aK text raw=match bp p.names ((split 10 text).length-0) 0 with
        |some i=>(none,3,i)
        |none=>match bp p.cz ((split 10 text).length-0) 0 with
         |some i=>(none,4,i)
         |none=>(some p,0,0)):=by rw[HR.out,ja (not_or.mpr ⟨lg,fC⟩)];rfl
      rw[Bool.not_eq_true]at lg;rw[lg]at FG;have aw:((p.blocks.length:Int)==0)=false:=by rw[jZ];omega
      clear HR lg fC;go_wp2_with (go_at_call 69;refine FG.mono ?_;rintro e w' ⟨rfl,n,rfl⟩)
      obtain⟨wo,hwo⟩:∃wo:World,wo=wr:=⟨_,rfl⟩;subst hwo;go_loopg [12] ((split 10 text).length) (fun gk i wn=>∃(k m:Nat),k<=(split 10 text).length/\gk+k=(split 10 text).length/\i=.int .i64 k/\wn=wo.drewN m/\Hid (bp p.names ((split 10 text).length-0) 0=bp p.names ((split 10 text).length-k) k))
      case atStart=>exact⟨0,n,jQ _,rfl,rfl,rfl,rfl⟩
      case round=>
       obtain⟨k,m,hk,GI,rfl,rfl,HI⟩:=hrel;by_cases aL:k<(split 10 text).length
       ·have HS:Hid (_=_):=sE p.names _ k aL;have HNm:=Sw p a k (wo.drewN m) (yR.drewN m) cf (by rw[HN.out];exact aL) (HLO.out k aL);clear FG;cases Kp:p.names k
        ·have hx:aK text raw=(none,3,k):=by rw[kd.out,HI.out,HS.out,Kp];rfl
         rw[Kp]at HNm;clear Kp;go_wp2_with (go_at_call 70;refine HNm.mono ?_;rintro e w' ⟨rfl,nn,rfl⟩)
         go_ret3
         exact mK (hH.drewN (m+nn)).br hx
        ·have hx:Hid (bp p.names ((split 10 text).length-k) k=bp p.names ((split 10 text).length-(k+1)) (k+1)):=by unfold Hid;rw[HS.out,Kp];rfl
         rw[Kp]at HNm;clear Kp;go_wp2_with (go_at_call 70;refine HNm.mono ?_;rintro e w' ⟨rfl,nn,rfl⟩)
         go_roundg ((split 10 text).length-(k+1))
         case rel=>exact⟨k+1,m+nn,by omega,by omega,by go_num,by simp,by rw[HI.out,hx.out];rfl⟩
         case measure=>omega
       ·have HA:Hid (∀j,j<(split 10 text).length->p.names j=true):=fun j hj=>lH p.names _ 0 (by rw[HI.out,show(split 10 text).length-k=0 by omega];rfl) j (by omega) (by omega)
        have HR3:Hid (aK text raw=match bp p.cz ((split 10 text).length-0) 0 with
         |some i=>(none,4,i)
         |none=>(some p,0,0)):=by
         unfold Hid;rw[kd.out,HI.out,show(split 10 text).length-k=0 by omega];rfl
        clear kd HI FG;go_wp2
        clear aL hk;go_loopg [14] ((split 10 text).length) (fun gk i wn=>∃(k m:Nat),k<=(split 10 text).length/\gk+k=(split 10 text).length/\i=.int .i64 k/\wn=wo.drewN m/\Hid (bp p.cz ((split 10 text).length-0) 0=bp p.cz ((split 10 text).length-k) k))
        case atStart=>exact⟨0,m,jQ _,rfl,rfl,rfl,rfl⟩
        case round=>
         obtain⟨k,m,hk,GI,rfl,rfl,HI⟩:=hrel;by_cases aL:k<(split 10 text).length
         ·have HS:Hid (_=_):=sE p.cz _ k aL;have tN:k<p.lines.length:=by rw[HN.out];exact aL
          obtain⟨gL,capL,gl,dt,kq,vB,oa,xQ,hw⟩:=yR.gH k tN;have FF:=cf.words k tN;have qT:=hw 0 (by omega);have hi30:(0:Int)<(p.line k).length:=by omega
          have hi31:(k:Int)<p.lines.length:=by omega
          have hszp:=cf.size;clear hw;by_cases ew:word (p.line k) 0=cx
          ·have ql:(word (p.line k) 0==[108,101,116])=true:=by rw[ew];rfl
           have hx:Hid (bp p.cz ((split 10 text).length-k) k=bp p.cz ((split 10 text).length-(k+1)) (k+1)):=by unfold Hid;rw[HS.out,jb (by simp[RP.cz,ew])]
           clear ew;go_wp2
           go_roundg ((split 10 text).length-(k+1))
           case rel=>exact⟨k+1,m,by omega,by omega,by go_num,rfl,by rw[HI.out,hx.out];rfl⟩
           case measure=>omega
          ·have ql:(word (p.line k) 0==[108,101,116])=false:=by simpa [cx]using ew
           by_cases bV:word (p.line k) 0=aR
           ·have B7:(word (p.line k) 0==[98,108,111,99,107])=true:=by rw[bV];rfl
            have hx:Hid (bp p.cz ((split 10 text).length-k) k=bp p.cz ((split 10 text).length-(k+1)) (k+1)):=by unfold Hid;rw[HS.out,jb (by simp[RP.cz,bV])]
            clear ew bV;go_wp2
            go_roundg ((split 10 text).length-(k+1))
            case rel=>exact⟨k+1,m,by omega,by omega,by go_num,rfl,by rw[HI.out,hx.out];rfl⟩
            case measure=>omega
           ·have B7:(word (p.line k) 0==[98,108,111,99,107])=false:=by simpa [aR]using bV
            have Va:Hid (p.cz k=p.types k):=by unfold Hid RP.cz;rw[show(word (p.line k) 0==cx)=false from ql,show(word (p.line k) 0==aR)=false from B7];rfl
            have HTm:=TG p a k (wo.drewN m) (yR.drewN m) cf tN (HLO.out k aL) ew (HA.out k aL);clear ew bV;cases qv:p.types k
            ·have hx:aK text raw=(none,4,k):=by rw[HR3.out,HI.out,HS.out,Va.out,qv];rfl
             rw[qv]at HTm;clear qv;go_wp2_with (go_at_call 71;refine HTm.mono ?_;rintro e w' ⟨rfl,nn,rfl⟩)
             go_ret3
             exact mK (hH.drewN (m+nn)).br hx
            ·have hx:Hid (bp p.cz ((split 10 text).length-k) k=bp p.cz ((split 10 text).length-(k+1)) (k+1)):=by unfold Hid;rw[HS.out,Va.out,qv];rfl
             rw[qv]at HTm;clear qv;go_wp2_with (go_at_call 71;refine HTm.mono ?_;rintro e w' ⟨rfl,nn,rfl⟩)
             go_roundg ((split 10 text).length-(k+1))
             case rel=>exact⟨k+1,m+nn,by omega,by omega,by go_num,by simp,by rw[HI.out,hx.out];rfl⟩
             case measure=>omega
         ·have hx:aK text raw=(some p,0,0):=by rw[HR3.out,HI.out,show(split 10 text).length-k=0 by omega];rfl
          clear HR3 HI;go_wp2
          go_ret3
          exact Po (hH.drewN m) cf hx
set_option maxRecDepth 20000 in
set_option maxHeartbeats 1000000 in
theorem ye (text:B)(raw:Bool)(w:World)(h:text.length<=1099511627776)(h1:4000<(split 10 text).length\/(raw=false/\120<(split 10 text).length)):
  Calls Tryz.prog 46 #[.string (bs text),.bool raw] w (qA text raw w):=by
 have hx:aK text raw=(none,1,0):=by rw[aK,jb h1]
 have hlen:=lQ 10 text;by_cases h4:4000<(split 10 text).length
 ·clear h1;go_enter Tryz.func46,Tryz.ntmps46
  go_wp2_with (go_at_call 67;refine(rA text _ h).mono ?_;rintro e w1 ⟨g0,c0,rfl,ho0,fC⟩)
  go_ret3
  exact mK fC hx
 ·obtain⟨rfl,h5⟩:raw=false/\120<(split 10 text).length:=h1.resolve_left h4;clear h1;go_enter Tryz.func46,Tryz.ntmps46
  go_wp2_with (go_at_call 67;refine(rA text _ h).mono ?_;rintro e w1 ⟨g0,c0,rfl,ho0,fC⟩)
  go_ret3
  exact mK fC hx
theorem S5 (text:B)(raw:Bool)(w:World)(h:text.length<=1099511627776):Calls Tryz.prog 46 #[.string (bs text),.bool raw] w (qA text raw w):=by
 by_cases hl:4000<(split 10 text).length\/(raw=false/\120<(split 10 text).length)
 ·exact ye text raw w h hl
 ·simp only[not_or,not_and]at hl;exact Pu text raw w h (by omega) (fun e=>by have:=hl.2 e;omega)
end RefM
namespace PrjX
open Go Go.RowKit Sq Aux PrjF PrjG PrjJ PrjK PrjW RefM
set_option maxRecDepth 20000 in
theorem Pt (text:B)(w:World)(h:text.length<=1048576)(E:Env w):Calls Tryz.prog 53 #[.string (bs text)] w (dW text false w):=by
 have K:=Pp text false w h E
 replace K:=K.mono (R':=fun e w'=>∃v,e=.returned (.tuple #[v,.int .i64 ((bd text false).2.1:Nat),.int .i64 ((bd text false).2.2:Nat)])/\dW text false w (.returned (.tuple #[v,.int .i64 ((bd text false).2.1:Nat),.int .i64 ((bd text false).2.2:Nat)])) w') fun e w' hp=>by
  have Cr:=hp;obtain⟨-,v,rfl,-⟩:=Cr;exact⟨v,rfl,hp⟩
 generalize (bd text false).2.1=c1 at K;generalize (bd text false).2.2=c2 at K;have K2:Calls Tryz.prog 72 #[.agg #[.bool false,.int .i64 120,.int .i64 20],.string (bs text)] w _:=K;go_enter Tryz.func53,Tryz.ntmps53
 go_wp2_with (go_at_call 72;refine K2.mono ?_;rintro e w1 ⟨v,rfl,hp⟩)
 go_ret3
 exact hp
theorem M6 (n:Int)(w:World):Calls Tryz.prog 35 #[.int .i64 n] w fun e w'=>e=.returned (.int .i64 n)/\w'=w:=by
 go_enter Tryz.func35,Tryz.ntmps35
 go_wp2
 go_ret
 exact⟨rfl,rfl⟩
end PrjX
namespace FlwZ
open Go Go.RowKit Sq Aux PrjF PrjG PrjJ PrjK PrjM PrjS PrjW PrjX RefM FlwF FlwI FlwK FlwM FlwO FlwP FlwQ FlwR FlwV FlwX FlwY
theorem IF {text:B}{raw:Bool}{c k:Nat}(h:bd text raw=(none,c,k)):1<=c/\aK text raw=(none,c,k):=by
 have hc:1<=c:=by
  by_cases dj:(split 10 text).length>(if raw then 4000 else 120)
  ·rw[bd,jb dj]at h;simp only[Prod.mk.injEq]at h;omega
  ·rw[bd,ja dj]at h;split at h
   ·simp only[Prod.mk.injEq]at h;omega
   ·split at h
    ·simp only[Prod.mk.injEq]at h;omega
    ·split at h
     ·simp only[Prod.mk.injEq]at h;omega
     ·split at h
      ·simp only[Prod.mk.injEq]at h;omega
      ·cases h
 refine⟨hc,?_⟩;have h2:=(yf text raw).1;rw[h]at h2;simp only at h2;cases hr:aK text raw with
 |mk op ck=>
  rw[hr]at h2;simp only at h2;subst h2;cases op with
  |none=>rfl
  |some p=>have:=(jz hr).2.1;omega
theorem EY {text:B}{raw:Bool}{q:QP}{c k:Nat}(h:bd text raw=(some q,c,k)):c=0/\k=0/\∃p,aK text raw=(some p,0,0)/\fj text raw p q:=by
 obtain⟨p,hb⟩:=Px (text:=text) (raw:=raw) (q:=q) (by rw[h]);have h2:=(yf text raw).1;have e:aK text raw=(some p,(aK text raw).2.1,(aK text raw).2.2):=by rw[<-hb.ref]
 obtain⟨-,e1,e2,-⟩:=jz e;have e3:aK text raw=(some p,0,0):=by rw[e,e1,e2]
 rw[h,e3]at h2;simp only[Prod.mk.injEq]at h2;exact⟨h2.1,h2.2,p,e3,hb⟩
theorem N6 {z a:Nat}{w w':World}{q:QP}(h:Fz z a w q)(hb:Below w.heap.size w w'):Fz z a w' q:=by
 obtain⟨vl,vb,us,vss,hp⟩:=h.at_;exact⟨⟨vl,vb,us,vss,hp.below hb⟩,h.ok,h.locals,h.blocks,h.lines⟩
theorem Ap {text:B}{p:RP}{q:QP}(h:fj text false p q):0<q.blocks.length:=by
 rw[h.len];exact h.ok.first.1
theorem Q8 {text:B}{p:RP}{q:QP}{z a:Nat}{w:World}(hB:fj text false p q)(hG:Fz z a w q):Calls Tryz.prog 54 #[.pointer (some ⟨a,0,none⟩)] w fun e w'=>
  (∃E',lB text p q E'/\e=.returned (CS (aC (cV q E') q.blocks.length 0)))/\Below w.heap.size w w':=by
 obtain⟨vl,vb,us,vss,hp⟩:=hG.at_;refine(z8 hp (Ap hB) hG.blocks hB.aW hB.Yo hG.lines (Qi q) (KZ q (Ap hB)) (fun E O b _ _ hb hO hI=>Ov q hB.Yo hB.aW E O b hb hO hI)).mono ?_;rintro e w' ⟨⟨E',-,-,hI,rfl⟩,hb⟩;exact⟨⟨E',⟨hB,hI,(Ap hB)⟩,rfl⟩,hb⟩
def rL (text:B)(w:World)(e:Ending)(w':World):Prop:=
 Below w.heap.size w w'/\((∃c k:Nat,1<=c/\aK text false=(none,c,k)/\e=.returned (.tuple #[.pointer none,.int .i64 (c:Int),.int .i64 (k:Int)]))\/
  ∃p q E,aK text false=(some p,0,0)/\bd text false=(some q,0,0)/\lB text p q E/\((∃n:Nat,aC (cV q E) q.blocks.length 0=some n/\e=.returned (.tuple #[.pointer none,.int .i64 5,.int .i64 (n:Int)]))\/
   (aC (cV q E) q.blocks.length 0=none/\∃a z,e=.returned (.tuple #[.pointer (some ⟨a,0,none⟩),.int .i64 0,.int .i64 0])/\w.heap.size<=z/\Fz z a w' q)))
def mg (text:B)(c k:Int):Prop:=(∃c' k':Nat,1<=c'/\aK text false=(none,c',k')/\c=c'/\k=k')\/
  ∃p q E,aK text false=(some p,0,0)/\bd text false=(some q,0,0)/\lB text p q E/\((∃n:Nat,aC (cV q E) q.blocks.length 0=some n/\c=5/\k=n)\/(aC (cV q E) q.blocks.length 0=none/\c=0/\k=0))
end FlwZ
namespace RunB
open Go Sq Aux Go.Proofs.YtmlgajhhnojdjaaGreatDoor.Own RunA PrjS FlwA FlwB FlwC FlwD FlwE FlwF FlwG FlwH FlwI FlwJ FlwK FlwM FlwO FlwP FlwQ FlwS FlwV FlwY FlwZ
structure Steps (q:QP)(J:List Nat->Own.Own->Prop):Prop where
 fz:∀l s o,kI q l->ko l.op->eI s->aM q l s=false->J s o->o.bE l=true/\J (bm q l s) (o.fz q l)
 Zj:∀l s o,kI q l->l.op=6->eI s->aM q l s=false->J s o->J (bm q l s) (o.calc l)
 new:∀l s o,kI q l->l.op=9->eI s->aM q l s=false->J s o->J (bm q l s) ((o.drop [ai l 0]).new (ai l 0) (o.num (ai l 1)))
 term:∀l s o,kI q l->l.op=18\/l.op=19\/l.op=20->eI s->aM q l s=false->J s o->J (cv l (if o.other l then 1 else 0) s) o
 mono:∀s t o,eI s->eI t->ld s t->J s o->J t o
def WN (q:QP)(J:List Nat->Own.Own->Prop)(room:Int)(ans:Nat×Int×Own.Own):Prop:=
 ∃s o,J s o/\((ans=(2,0,o))\/(ans=(4,0,o))\/(∃l,kI q l/\l.op=9/\(o.drop [ai l 0]).yd.live≥room/\ans=(3,0,o.drop [ai l 0]))\/∃l,kI q l/\l.op=22/\ans=(1,o.num (ai l 0),o.dN q q.locals.length))
theorem lZ {q:QP}(ie:q.locals.length<=12):Steps q (j8 q) where
 fz:=fun _ _ _ hl FE _ hf h=>Sj hl ie hf h FE
 Zj:=fun _ _ _ hl ax _ _ h=>QC hl h ax
 new:=fun _ _ _ _ ax _ _ h=>Vr h ax _
 term:=fun _ _ _ _ _ _ _ h=>Tz ie h
 mono:=fun _ _ _ _ ht hl h=>lC.mono h ht.len hl
theorem Mm {l:ab}{ls:List ab}(h:Whole (l::ls)):(18<=l.op/\ls=[])\/(l.op<18/\Whole ls):=by
 obtain⟨us,t,e,h1,h2⟩:=h;cases us with
 |nil=>simp only[List.nil_append,List.cons.injEq]at e;exact .inl ⟨by rw[e.1];exact h1,e.2⟩
 |cons a us=>
  simp only[List.cons_append,List.cons.injEq]at e;exact .inr ⟨by rw[e.1];exact h2 a (jM ..),us,t,e.2,h1,fun m hm=>h2 m (jN _ hm)⟩
theorem Dt {q:QP}{l:ab}(hl:kI q l)(h:l.op<18):l.next=[]:=by
 have key:∀op:Fin 18,((ag op.val).filter (·==98)).length=0:=by decide
 have:=hl.ok.ER;rw[show((ag l.op).filter (·==98)).length=0 from key ⟨l.op,h⟩]at this;exact List.length_eq_zero_iff.mp this
theorem rm {q:QP}{l:ab}(hl:kI q l):ko l.op\/l.op=6\/l.op=9\/l.op=18\/l.op=19\/l.op=20\/l.op=22:=by
 have h1:=hl.ok.op;have h2:=hl.ok.op2;have h3:=hl.has;unfold pE at h3;unfold ko;by_cases e:l.op=16\/l.op=17\/l.op=21
 ·rw[ja (by omega),jb e]at h3;cases h3
 ·omega
theorem M8 (l:ab)(s:List Nat){i:Nat}(hi:i<l.next.length)(h2:l.next.length<=2):(l.next.getD i 0,cv l i s)∈kR l l.next 0 s:=by
 match hn:l.next,h2 with
 |[],_=>rw[hn]at hi;simp at hi
 |[n],_=>
  rw[hn]at hi;have:i=0:=by simp at hi;omega
  subst this;simp[kR]
 |[n,m],_=>
  rw[hn]at hi;have:i=0\/i=1:=by simp at hi;omega
  rcases this with rfl|rfl
  ·simp[kR]
  ·have e:cv l 1 (cv l 0 s)=cv l 1 s:=by
    unfold cv;split
    ·simp only[gS,List.foldl_cons,List.foldl_nil,List.set_set]
    ·rfl
   simp[kR,e]
 |_::_::_::_,h=>simp at h
theorem WC {q:QP}{l:ab}(ie:q.locals.length<=12)(hl:kI q l):Qn l:=fun x hx=>by have:=(hl.ok.places x hx).1;omega
theorem LX {q:QP}{J:List Nat->Own.Own->Prop}(ie:q.locals.length<=12)(hS:Shape q)(hq:Jy q.blocks.length q)(U:Nat->List Nat)(hU:rQ q U)(kN:∀b,b<q.blocks.length->U b=ar\/Full (U b))
  (gX:∀b,b<q.blocks.length->¬U b=ar->cX q (q.blocks.getD b []) (U b)=none) (H:Steps q J) (room:Int):
  ∀(f:Nat) (ls:List ab) (s:List Nat) (o:Own.Own),Whole ls->(∀l∈ls,kI q l)->eI s->Full s->cX q ls s=none->(∀x∈eo q ls s,ld x.2 (U x.1))->J s o->∃ans,ea q room f ls o=some ans/\WN q J room ans
 |f,[],s,o,hw,_,_,_,_,_,_=>by
  obtain⟨us,t,e,-⟩:=hw;simp at e
 |0,l::ls,s,o,_,_,_,_,_,_,h=>⟨(2,0,o),rfl,s,o,h,.inl rfl⟩
 |f+1,l::ls,s,o,hw,la,hs,hf,kZ,ka,h=>by
  have hl:=la l (jM ..);rw[cX]at kZ;have Of:aM q l s=false:=by
   cases hv:aM q l s with
   |false=>rfl
   |true=>rw[hv,jb rfl]at kZ;cases kZ
  rw[Of,ja (by decide)]at kZ;rcases Mm hw with⟨sw,rfl⟩|⟨sw,hw2⟩
  ·have ho:=rm hl;unfold ko at ho;by_cases TP:l.op=22
   ·refine⟨_,?_,s,o,h,.inr (.inr (.inr ⟨l,hl,TP,rfl⟩))⟩;rw[ea,ja (by omega),ja (by omega),ja (by omega),jb TP]
   ·have ax:l.op=18\/l.op=19\/l.op=20:=by omega
    have lh:l.next.length=if l.op=18 then 1 else 2:=by
     rw[hl.ok.ER];rcases ax with e|e|e<;>rw[e]<;>rfl
    have hi:(if o.other l then 1 else 0)<l.next.length:=by
     rw[lh];by_cases e:l.op=18
     ·have:o.other l=false:=by rw[Own.other,ja (by omega),ja (by omega)]
      rw[this,jb e];decide
     ·rw[ja e];split<;>omega
    have hp:bm q l s=s:=oZ (by rcases ax with e|e|e<;>rw[e]<;>rfl) (by omega) (by omega) (by omega);have xU:=M8 l s hi (by rw[lh];split<;>omega);have hle:=ka (l.next.getD (if o.other l then 1 else 0) 0,cv l (if o.other l then 1 else 0) s) (by rw[eo,hp];exact List.mem_append_left _ xU);have hb:l.next.getD (if o.other l then 1 else 0) 0<q.blocks.length:=hl.ok.next _ (by rw[jA,jB hi];exact jL _);have ir:=gv l (if o.other l then 1 else 0) hs;have ec:=cR ir hle (vy (oL l _ hf));have hJ:=H.mono _ _ _ ir (hU.ok _ hb) hle (H.term l s o hl ax hs Of h);obtain⟨ans,h1,h2⟩:=LX ie hS hq U hU kN gX H room f (q.blocks.getD (l.next.getD (if o.other l then 1 else 0) 0) []) _ o (hS.whole _ hb) (fun m hm=>⟨hq.lines _ (l6 hm) m hm,hS.has _ m hm,hS.fits _ m hm⟩) (hU.ok _ hb) ((kN _ hb).resolve_left ec) (gX _ hb ec) (fun x hx=>hU.step _ hb ec x hx) hJ;refine⟨ans,?_,h2⟩;rw[ea,ja (by omega),ja (by omega),jb ax,jb rfl];exact h1
  ·have mQ:=Dt hl sw;have Ca:=gm q l hs;have FD:=xL q (WC ie hl) hf;have RL:∀x∈eo q ls (bm q l s),ld x.2 (U x.1):=fun x hx=>ka x (by rw[eo,mQ];simpa [kR,T9]using hx)
   have ih:=fun o' (hJ:J (bm q l s) o')=>LX ie hS hq U hU kN gX H room f ls (bm q l s) o' hw2 (fun m hm=>la m (jN _ hm)) Ca FD kZ RL hJ
   rcases rm hl with FE|ax|ax|ax|ax|ax|ax
   ·obtain⟨hn,hJ⟩:=H.fz l s o hl FE hs Of h;obtain⟨ans,h1,h2⟩:=ih _ hJ;refine⟨ans,?_,h2⟩;have hgo':=FE;unfold ko at hgo';rw[ea,ja (by omega),ja (by omega),ja (by omega),ja (by omega),jb hn];exact h1
   ·by_cases hz:o.num (ai l 2)=0
    ·refine⟨_,?_,s,o,h,.inr (.inl rfl)⟩;rw[ea,jb ax,jb hz]
    ·obtain⟨ans,h1,h2⟩:=ih _ (H.Zj l s o hl ax hs Of h);refine⟨ans,?_,h2⟩;rw[ea,jb ax,ja hz];exact h1
   ·by_cases hr:(o.drop [ai l 0]).yd.live≥room
    ·refine⟨_,?_,s,o,h,.inr (.inr (.inl ⟨l,hl,ax,hr,rfl⟩))⟩;rw[ea,ja (by omega),jb ax,jb hr]
    ·obtain⟨ans,h1,h2⟩:=ih _ (H.new l s o hl ax hs Of h);refine⟨ans,?_,h2⟩;rw[ea,ja (by omega),jb ax,ja hr];exact h1
   ·omega
   ·omega
   ·omega
   ·omega
theorem cF (f:Nat->Option Nat):∀(m k:Nat),aC f m k=none->∀c,k<=c->c<k+m->f c=none
 |0,_,_,c,h1,h2=>by omega
 |m+1,k,h,c,h1,h2=>by
  rw[aC]at h;cases hk:f k with
  |some v=>rw[hk]at h;cases h
  |none=>
   rw[hk,Option.none_or]at h;by_cases e:c=k
   ·rw[e];exact hk
   ·exact cF f m (k+1) h c (by omega) (by omega)
theorem IT {text:B}{p:RP}{q:QP}{E:List (List Nat)}(hD:lB text p q E)(hr:bd text false=(some q,0,0))(hn:aC (cV q E) q.blocks.length 0=none){J:List Nat->Own.Own->Prop}(H:Steps q J){al:List Int}(hJ:J aV (Own.start al))(room:Int)(f:Nat):
  ∃ans,ea q room f (q.blocks.getD 0 []) (Own.start al)=some ans/\WN q J room ans:=by
 have hS:=tC hr;have hq:=hD.both.Yo;have ie:=hD.both.aW;have hI:=hD.inv.inv;have hU:rQ q (fun b=>E.getD b []):=⟨fun b hb=>hD.ok hb,hI.start,fun b hb hz x hx=>hI.step b hb rfl hz x hx⟩;have h0:¬E.getD 0 []=ar:=cR ⟨by decide,fun k=>by
  by_cases hk:k<24
  ·have:aV.getD k 0=1:=by show(List.replicate 24 1).getD k 0=1;rw[jA,jO,jb hk];rfl
   rw[this];decide
  ·rw[jA,jG (by show(List.replicate 24 1).length<=k;simp;omega)];decide⟩ hI.start (vy pC)
 have gX:∀b,b<q.blocks.length->¬E.getD b []=ar->cX q (q.blocks.getD b []) (E.getD b [])=none:=fun b hb hz=>by
  have:=cF _ _ _ hn b (jQ _) (by omega);rw[cV,ja hz]at this;exact this
 have hstok:eI aV:=⟨by decide,fun k=>by
  by_cases hk:k<24
  ·have:aV.getD k 0=1:=by show(List.replicate 24 1).getD k 0=1;rw[jA,jO,jb hk];rfl
   rw[this];decide
  ·rw[jA,jG (by show(List.replicate 24 1).length<=k;simp;omega)];decide⟩
 exact LX ie hS hq (fun b=>E.getD b []) hU hD.inv.full gX H room f (q.blocks.getD 0 []) (E.getD 0 []) (Own.start al) (hS.whole 0 hD.pos) (fun m hm=>⟨hq.lines _ (l6 hm) m hm,hS.has _ m hm,hS.fits _ m hm⟩) (hD.ok hD.pos) ((hD.inv.full 0 hD.pos).resolve_left h0) (gX 0 hD.pos h0) (fun x hx=>hU.step 0 hD.pos h0 x hx) (H.mono _ _ _ hstok (hD.ok hD.pos) hI.start hJ)
end RunB
namespace Ex
theorem hereExL:True:=trivial
end Ex
namespace Ex
theorem hereExM:True:=trivial
end Ex
end Go.Proofs.YtmlgajhhnojdjaaGreatDoor

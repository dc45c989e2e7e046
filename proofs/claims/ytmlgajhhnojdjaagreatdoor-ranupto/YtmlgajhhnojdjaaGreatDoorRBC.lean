import Derived.Test.YtmlgajhhnojdjaaGreatDoorRBB
namespace Go.Proofs.YtmlgajhhnojdjaaGreatDoor
namespace RefZe
open Go.RowKit Sq RefA RefD RefP RefR RefT RefU RefZc RefZd Aux
attribute [local go_sem ↓] mO kY
attribute [local go_sem] zI
attribute [local go_sem ↓] zu yy
attribute [local go_sem] iH gx lM lS iJ
structure Qr (text:B)(p:RP)(a:Nat)(w:World):Prop where
 prog:bf w a p
 ok:p.Ok
 ml:aF text false p
theorem Sl {w:World}{a:Nat}{p:RP}(h:bf w a p)(i:Nat)(hi:i<p.lines.length):
  ∃(g cap gl dt:Nat),w.cell? ⟨a,0,none⟩=some (.slice (some ⟨g,0,none⟩) p.lines.length cap)/\p.lines.length<=cap/\g<w.heap.size/\gl<w.heap.size/\w.cell? ⟨g,i,none⟩=some (.slice (some ⟨gl,0,none⟩) (p.line i).length dt)/\(p.line i).length<=dt/\
   ∀j,j<(p.line i).length->w.cell? ⟨gl,j,none⟩=some (.string (bs (word (p.line i) j))):=by
 obtain⟨v,hv,hr⟩:=h.lines;rcases hr with⟨he,_⟩|⟨g,cap,rfl,hc,hg,aD⟩
 ·rw[he]at hi;simp at hi
 ·obtain⟨u,hu,gl,dt,rfl,AW,Wh,hw⟩:=aD i hi;exact⟨g,cap,gl,dt,hv,hc,hg,Wh,hu,AW,hw⟩
structure Aa (p:RP)(a i g cap gl dt:Nat)(w:World):Prop where
 all:w.cell? ⟨a,0,none⟩=some (.slice (some ⟨g,0,none⟩) p.lines.length cap)
 cap:p.lines.length<=cap
 alt:a<w.heap.size
 glt:g<w.heap.size
 row:gl<w.heap.size
 line:w.cell? ⟨g,i,none⟩=some (.slice (some ⟨gl,0,none⟩) (p.line i).length dt)
 dt:(p.line i).length<=dt
 words:∀j,j<(p.line i).length->w.cell? ⟨gl,j,none⟩=some (.string (bs (word (p.line i) j)))
theorem Aa.below {p:RP}{a i g cap gl dt:Nat}{w w':World}{n:Nat}(h:Aa p a i g cap gl dt w)(hn:n=w.heap.size)(hb:Below n w w'):Aa p a i g cap gl dt w':=by
 subst hn;have hs:=hb.size;exact⟨(hb.cell (p:=⟨a,0,none⟩) h.alt).trans h.all,h.cap,by have:=h.alt;omega,by have:=h.glt;omega,by have:=h.row;omega,(hb.cell (p:=⟨g,i,none⟩) h.glt).trans h.line,h.dt,fun j hj=>(hb.cell (p:=⟨gl,j,none⟩) h.row).trans (h.words j hj)⟩
theorem EL {w:World}{a:Nat}{p:RP}(h:bf w a p)(i:Nat)(hi:i<p.lines.length):∃g cap gl dt,Aa p a i g cap gl dt w:=by
 obtain⟨g,cap,gl,dt,h1,h2,h3,h4,h5,h6,h7⟩:=Sl h i hi;exact⟨g,cap,gl,dt,h1,h2,h.lt,h3,h4,h5,h6,h7⟩
theorem Nl {text:B}{p:RP}{a:Nat}{w:World}(H:Qr text p a w){i g cap gl dt:Nat}{wr:World}(hB:Below w.heap.size w wr)(hl:Aa p a i g cap gl dt wr)(hi:i<p.lines.length){s:WS}(hs:s.dT):
  Calls Tryz.prog 84 #[.pointer (some ⟨a,0,none⟩),.slice (some ⟨gl,0,none⟩) (p.line i).length dt,.agg s.cells.toArray] wr fun e w'=>e=.returned (.tuple #[.agg (p.step (p.line i) s).1.cells.toArray,.bool (p.step (p.line i) s).2])/\Below wr.heap.size wr w':=by
 have SI:iU p a s (p.line i) gl wr:=⟨H.prog.below hB,H.ok,hs.ok,H.ml.pre.aW,hl.row,H.ok.words i hi,hl.words,fun j=>by have:=H.ok.long i j;unfold maxLen;omega,H.ok.wide i⟩;exact Tr p a s i gl dt wr SI (by have:=H.ml.pre.form i hi;rwa [H.ml.raw]at this) (H.ml.names i hi) H.ml.raw hs
theorem FO (s o:WS)(w:World)(hs:s.dT)(ho:o.dT):
  Calls Tryz.prog 86 #[.agg s.cells.toArray,.agg o.cells.toArray] w fun e w'=>e=.returned (.tuple #[.agg (s.add o).1.cells.toArray,.bool (s.add o).2])/\Below w.heap.size w w':=Nw s o w hs ho
theorem SF {text:B}{p:RP}{a:Nat}{w:World}(H:Qr text p a w){wr:World}(hB:Below w.heap.size w wr){i:Nat}{s:WS}(hs:s.dT)(l c:B)(hl:l=word (p.line i) 1)(hc:c.length<=1000)(hf:0<=p.find (aj l)):
  Calls Tryz.prog 88 #[.pointer (some ⟨a,0,none⟩),.agg s.cells.toArray,.string (bs l),.string (bs c)] wr fun e w'=>e=.returned (.agg (p.now s l c).cells.toArray)/\Below wr.heap.size wr w':=
 kC p a s l c wr (H.prog.below hB) H.ok hs.ok (by rw[hl];have:=H.ok.long i 1;unfold maxLen;omega) hc hf H.ml.pre.aW
theorem QU {w:B}(h:ends w=true):¬w=cx/\¬w=aR:=by
 constructor
 ·intro e;rw[e]at h;exact absurd h (by decide)
 ·intro e;rw[e]at h;exact absurd h (by decide)
def mH (i:Nat):WS:=⟨false,List.replicate i [45]++List.replicate (24-i) []⟩
theorem VJ (i:Nat)(hi:i<=24):(mH i).Ok:=by
 refine⟨by simp[mH];omega,fun k=> ?_⟩;unfold WS.at mH;simp only[List.getD_eq_getElem?_getD,List.getElem?_append,List.getElem?_replicate]
 repeat' split
 all_goals simp
theorem LH (i:Nat)(hi:i<24):(mH (i+1)).cells=(mH i).cells.set (1+i) (.string (bs [45])):=by
 unfold mH WS.cells;rw[Nat.add_comm 1 i,List.set_cons_succ,<-List.map_set];congr 2;rw[List.set_append_right _ _ (by simp),List.length_replicate,Nat.sub_self,show 24-i=(24-(i+1))+1 by omega,List.replicate_succ' (n:=i),List.append_assoc,List.replicate_succ (n:=24-(i+1)),List.set_cons_zero];rfl
theorem S1:(j0).cells=(mH 24).cells.set 0 (.bool true):=rfl
set_option maxRecDepth 20000 in
set_option maxHeartbeats 80000000 in
theorem VU (text:B)(p:RP)(a:Nat)(w:World)(H:Qr text p a w):
  Calls Tryz.prog 52 #[.pointer (some ⟨a,0,none⟩)] w fun e w'=>(∃L,p.iT L/\e=.returned (.int .i64 (p.cW L p.lines.length 0)))/\Below w.heap.size w w':=by
 have hn:=H.ok.size;have HP:=H.ml.pos;have aw:p.blocks.getD 0 0<p.lines.length:=H.ml.first.2;obtain⟨g0,cap0,gl0,capl0,zM⟩:=EL H.prog 0 H.ml.pos;have mZ:=zM.all;have XM:=CE p.lines.length hn;go_enter Tryz.func52,Tryz.ntmps52
 go_upto_region 1 with fail
 go_cut [3] (fun v3 wc=>v3=.slice (some ⟨w.heap.size,0,none⟩) p.lines.length p.lines.length/\aT wc w.heap.size (List.replicate p.lines.length aI)/\Below w.heap.size w wc)
 case first=>
  go_wp2
  go_meet
  case rel=>exact⟨rfl,Bl w _,bG _ _⟩
 case rest=>
  clear XM mZ;obtain⟨rfl,hR,hB⟩:=hcut;go_wp2
  go_loopg [4] (24) (fun g v4 wr=>∃i:Nat,i<=24/\g+i=24/\v4=.int .i64 i/\aT wr w.heap.size ((List.replicate p.lines.length aI).set (p.blocks.getD 0 0) (mH i))/\Below w.heap.size w wr)
  case atStart=>
   refine⟨0,by omega,rfl,rfl,?_,hB⟩;have:(List.replicate p.lines.length aI).set (p.blocks.getD 0 0) (mH 0)=List.replicate p.lines.length aI:=by
    apply List.ext_getElem?
    intro j;rw[jd];split
    ·rename_i hj;rw[<-hj,jb (by simpa using aw),jO,jb aw];rfl
    ·rfl
   rw[this];exact hR
  case round=>
   clear hR hB;obtain⟨i,hi,YO,rfl,hR,hB⟩:=hrel;obtain⟨gb,capb,FC,ZJ,fC⟩:=(H.prog.below hB).Ao 0 H.ml.first.1;have ql:(0:Int)<p.blocks.length:=by have:=H.ml.first.1;omega
   obtain⟨b0,Xp⟩:∃b0,p.blocks.getD 0 0=b0:=⟨_,rfl⟩;rw[Xp]at aw fC hR;have HB0:Hid (p.blocks.getD 0 0=b0):=Xp;clear Xp;by_cases aL:i<24
   ·have hlen:b0<((List.replicate p.lines.length aI).set b0 (mH i)).length:=by simpa using aw
    as_aux_lemma=>
     have hfr:=hR.frozen (b0*25+1+i);have T8:=hR.there b0 hlen (1+i) (by omega);rw[<-Nat.add_assoc]at T8;obtain⟨T8,-⟩:=T8;obtain⟨v0,hv0⟩:=Option.isSome_iff_exists.mp T8;clear T8;go_wp2
     go_roundg (24-(i+1))
     case rel=>
      refine⟨i+1,by omega,by omega,by go_num,?_,hB.setCell (jC _) _⟩;have:=hR.setCell b0 (1+i) hlen (by omega) (.string (bs [45])) (VJ (i+1) (by omega)) (by rw[lj _ _ _ (by simpa using aw),jb rfl];exact LH i aL);rw[List.set_set,<-Nat.add_assoc]at this;rw[HB0.out];exact this
     case measure=>omega
   ·obtain rfl:i=24:=by omega
    have hlen:b0<((List.replicate p.lines.length aI).set b0 (mH 24)).length:=by simpa using aw
    have hfr:=hR.frozen (b0*25);have zL:=hR.known b0 hlen;go_upto_region 6 with fail
    go_cut [44] (fun v44 wc=>aT wc w.heap.size p.iA/\Below w.heap.size w wc)
    case first=>
     as_aux_lemma=>
      go_wp2
      go_meet
      case rel=>
       refine⟨?_,hB.setCell (jC _) _⟩;have:=hR.setCell b0 0 hlen (by omega) (.bool true) rB.ok (by rw[lj _ _ _ (by simpa using aw),jb rfl];exact S1);rw[List.set_set]at this;unfold RP.iA;rw[HB0.out];exact this
    case rest=>
     clear hR hB hfr zL FC ZJ fC ql hlen;obtain⟨hR,hB⟩:=hcut;have HS:Hid (cP p.iA/\p.iA.length=p.lines.length):=tD (by rw[HB0.out];exact aw);clear HB0 aw;go_wp2
     go_loopg [5] (97*p.lines.length+1) (fun g v5 wr=>∃(L:List WS) (m:Bool),v5=.bool m/\Hid ((if m then 97*p.lines.length-total L+1 else 0)<=g)/\aT wr w.heap.size L/\Below w.heap.size w wr/\L.length=p.lines.length/\Hid (cP L)/\Hid ((m=true->p.Reach L)/\(m=false->p.iT L)))
     case atStart=>exact⟨p.iA,true,rfl,by unfold Hid;simp,hR,hB,HS.out.2,HS.out.1,⟨fun _=> .start,fun h=>by cases h⟩⟩
     case round=>
      clear hR hB HS;obtain⟨L,m,rfl,HG,hR,hB,hL,HO,HQ⟩:=hrel;cases m
      ·
       have Zd:Hid (p.iT L):=HQ.out.2 rfl;clear HQ HG;go_wp2
       go_loopg [20] (p.lines.length) (fun g v20 wr=>∃i:Nat,i<=p.lines.length/\g+i=p.lines.length/\v20=.int .i64 i/\aT wr w.heap.size L/\Below w.heap.size w wr/\Hid (p.cW L p.lines.length 0=p.cW L (p.lines.length-i) i))
       case atStart=>exact⟨0,by omega,by omega,rfl,hR,hB,rfl⟩
       case round=>
        clear hR hB;obtain⟨i,hi,YO,rfl,hR,hB,HI⟩:=hrel;by_cases aL:i<p.lines.length
        ·obtain⟨g0,cap0,gl,dt,Cp⟩:=EL H.prog i aL;have sc:=Cp.below rfl hB;have mZ:=sc.all;have AW:=sc.line;have Co:i<L.length:=by omega
         have U0:(i:Int)<p.lines.length:=by omega
         have HS:Hid (_=_):=p.Ef L p.lines.length i aL;have HF:Hid ((p.step (p.line i) (lw L i)).1.dT):=p.kV (HO.out.fe i) _;obtain⟨t,YW⟩:∃t,p.step (p.line i) (lw L i)=t:=⟨_,rfl⟩;rw[YW]at HF HS;have HTT:Hid (p.step (p.line i) (lw L i)=t):=YW;clear YW;go_upto_region 38 with fail
         go_cut [22] (fun v22 wc=>v22=.bool t.2/\aT wc w.heap.size L/\Below w.heap.size w wc)
         case first=>
          refine RefZeR.reg38 a w.heap.size p.lines.length i g0 cap0 gl dt (p.line i).length t (lw L i) L wr _ _ _ _ _ aL Co HO.out rfl HF.out hR (fun W hW=>(sc.below rfl hW).all) (fun W hW=>(sc.below rfl hW).line) (fun W hW=>by have:=Nl H (hB.trans (hW.mono hB.size)) (sc.below rfl hW) aL (HO.out.fe i);rw[HTT.out]at this;exact this) ?_;intro x194 x195 x196 x197 x198 x199 x200 x201 x202 x203 x204 x205 x206 x207 x208 x209 x21 w' hR' Ep;go_wp2_with fail
          go_meet
          case rel=>exact⟨rfl,hR',hB.trans (Ep.mono hB.size)⟩
         case rest=>
          as_aux_lemma=>
           clear hR hB sc mZ AW HTT;obtain⟨rfl,hR,hB⟩:=hcut;have zL:=hR.known i Co;cases hk:(lw L i).known
           ·rw[hk]at zL;have HX:Hid (p.cW L p.lines.length 0=p.cW L (p.lines.length-(i+1)) (i+1)):=by
             unfold Hid;rw[HI.out,HS.out,hk];rfl
            clear hk;go_wp2
            go_roundg (p.lines.length-(i+1))
            case rel=>exact⟨i+1,by omega,by omega,by go_num,hR,hB,HX⟩
            case measure=>omega
           ·rw[hk]at zL;cases ht:t.2
            ·have HX:Hid (p.cW L p.lines.length 0=(i:Int)):=by
              unfold Hid;rw[HI.out,HS.out,hk,ht];rfl
             clear hk;go_wp2
             go_ret
             exact⟨⟨L,Zd.out,by rw[HX.out];rfl⟩,hB⟩
            ·have HX:Hid (p.cW L p.lines.length 0=p.cW L (p.lines.length-(i+1)) (i+1)):=by
              unfold Hid;rw[HI.out,HS.out,hk,ht];rfl
             clear hk;go_wp2
             go_roundg (p.lines.length-(i+1))
             case rel=>exact⟨i+1,by omega,by omega,by go_num,hR,hB,HX⟩
             case measure=>omega
        ·as_aux_lemma=>
          have mZ:=(zM.below rfl hB).all;have U0:¬(i:Int)<p.lines.length:=by omega
          have HX:Hid (p.cW L p.lines.length 0= -1):=by unfold Hid;rw[HI.out,show p.lines.length-i=0 by omega];rfl
          go_wp2
          go_ret
          exact⟨⟨L,Zd.out,by rw[HX.out];rfl⟩,hB⟩
      ·go_wp2
       go_loopg [5,6] (p.lines.length) (fun g v5 v6 wr=>∃(i:Nat) (L':List WS) (m:Bool),i<=p.lines.length/\g+i=p.lines.length/\v6=.int .i64 i/\v5=.bool m/\aT wr w.heap.size L'/\Below w.heap.size w wr/\L'.length=p.lines.length/\Hid (iP (L,false) (L',m))/\Hid (p.pass L=p.iy (p.lines.length-i) i (L',m)))
       case atStart=>exact⟨0,L,false,by omega,by omega,rfl,rfl,hR,hB,hL,iP.refl HO.out,rfl⟩
       case round=>
        clear hR hB hL;obtain⟨i,L',m,hi,YO,rfl,rfl,hR,hB,hL,Jw,HPs⟩:=hrel;by_cases aL:i<p.lines.length
        ·obtain⟨g0,cap0,gl,dt,Cp⟩:=EL H.prog i aL;have sc:=Cp.below rfl hB;have mZ:=sc.all;have AW:=sc.line;have Co:i<L'.length:=by omega
         have zL:=hR.known i Co;have HS:Hid (_=_):=p.IB p.lines.length i (L',m) aL;have U0:(i:Int)<p.lines.length:=by omega
         cases Wj:(lw L' i).known
         ·rw[Wj]at zL;have HT:Hid (p.through i (L',m)=(L',m)):=by unfold Hid RP.through;simp only;rw[Wj];rfl
          clear Wj
          as_aux_lemma=>
           go_wp2
           go_roundg (p.lines.length-(i+1))
           case rel=>exact⟨i+1,L',m,by omega,by omega,by go_num,rfl,hR,hB,hL,Jw,by unfold Hid;rw[HPs.out,HS.out,HT.out]⟩
           case measure=>omega
         ·rw[Wj]at zL;have hh:=hR.eC Jw.out.rows i Co;have hv:=hR.dE Jw.out.rows i Co;have Ue:=Nl H hB sc aL (Jw.out.rows.fe i);have HF:Hid ((p.step (p.line i) (lw L' i)).1.dT):=p.kV (Jw.out.rows.fe i) _;have HT:Hid (p.through i (L',m)=if ends (word (p.line i) 0)then p.lead (p.line i) (p.step (p.line i) (lw L' i)).1 (L',m)else ke (i+1) (p.step (p.line i) (lw L' i)).1 (L',m)):=by
           unfold Hid RP.through;simp only;rw[Wj];rfl
          obtain⟨t,YW⟩:∃t,p.step (p.line i) (lw L' i)=t:=⟨_,rfl⟩;rw[YW]at Ue HF HT;clear YW Wj;have xT:dh t.1.cells.toArray:=⟨_,HF.out.ok,rfl⟩;go_upto_region 15 with fail
          go_cut [8] (fun v8 wc=>∃S,v8=.pointer (some ⟨S,0,none⟩)/\aB wc S t.1/\Hid (wr.heap.size<=S)/\Below wr.heap.size wr wc)
          case first=>
           as_aux_lemma=>
            go_wp2_with (go_at_call 84;refine Ue.mono ?_;rintro e w1 ⟨rfl,aw⟩)
            go_meet
            case rel=>exact⟨_,rfl,z6 w1 HF.out.ok,aw.size,fH aw aw.size _⟩
          case rest=>
           obtain⟨S,rfl,hS,HSz,lv⟩:=hcut;have HSG:Hid (w.heap.size<S):=by have:=HSz.out;have:=hR.lt;unfold Hid;omega
           replace hR:=hR.below lv
           have hB0:=hB.size
           replace hB:=hB.trans (lv.mono hB0)
           replace sc:=sc.below rfl lv
           have GH:=sc.words 0 (H.ok.words i aL);have mx:(0:Int)<(p.line i).length:=by have:=H.ok.words i aL;omega
           clear Ue hh hv zL mZ AW lv HSz hB0;have Yu:=Ee (word (p.line i) 0) wc;cases he:ends (word (p.line i) 0)
           ·rw[he]at Yu HT;have mQ:i+1<L'.length:=by have:=H.ml.next i aL he;omega
            clear he
            as_aux_lemma=>
             have Nq:=fun W=>FO (lw L' (i+1)) t.1 W (Jw.out.rows.fe (i+1)) HF.out
             have Nr:Hid (((lw L' (i+1)).add t.1).1.dT):=WS.zA (Jw.out.rows.fe (i+1)) HF.out;have Cc:Hid (iP (L,false) (ke (i+1) t.1 (L',m))):=Jw.out.trans (fV Jw.out.rows mQ HF.out);have WO:Hid (ke (i+1) t.1 (L',m)=(L'.set (i+1) ((lw L' (i+1)).add t.1).1,m||((lw L' (i+1)).add t.1).2)):=rfl;obtain⟨r,XW⟩:∃r,(lw L' (i+1)).add t.1=r:=⟨_,rfl⟩;simp only[XW]at Nq;rw[XW]at Nr WO;clear XW;have oD:dh r.1.cells.toArray:=⟨_,Nr.out.ok,rfl⟩;have hnx1:(i:Int)+1<p.lines.length:=by omega
             have hnx0:(0:Int)<=(i:Int)+1:=by omega
             have YZ:IntKind.i64.wrap ((i:Int)+1)=(i:Int)+1:=by rw[IntKind.wrap_i64];omega
             have htn:((i:Int)+1).toNat=i+1:=by omega
             go_upto_region 18 with(go_at_call 85;refine Yu.mono ?_;rintro e wc ⟨rfl,rfl⟩)
             go_cut [11,12] (fun v11 v12 wc'=>∃T,v11=.pointer (some ⟨T,0,none⟩)/\v12=.bool r.2/\aB wc' T r.1/\Hid (w.heap.size<T)/\aT wc' w.heap.size L'/\Below w.heap.size w wc')
             case first=>
              refine RefZeS.reg18 w.heap.size p.lines.length i S r t.1 L' wc _ _ _ _ _ _ _ (by omega) hn hL Jw.out.rows HF.out Nr.out hS hR Nq ?_;intro x92 x93 x94 x95 x96 x97 x98 x99 x100 x101 T w' hT' hGT hR' Ep;go_wp2_with fail
              go_meet
              case rel=>exact⟨T,rfl,rfl,hT',hGT,hR',hB.trans (Ep.mono hB.size)⟩
             case rest=>
              clear Nq hR hB hS sc GH Yu;obtain⟨T,rfl,rfl,hT,HTG,hR,hB⟩:=hcut;have hhT:=hT.eC Nr.out.ok;have hvT:=hT.dE Nr.out.ok;have hhR:=hR.eC Jw.out.rows (i+1) mQ;cases m
              all_goals
               go_wp2
               go_roundg (p.lines.length-(i+1))
               case rel=>exact⟨i+1,L'.set (i+1) r.1,_,by omega,by omega,by go_num,rfl,hR.store (i+1) mQ Nr.out.ok,az hB (jC _) _ _,by rw[List.length_set];exact hL,by have:=Cc.out;rw[WO.out]at this;exact this,by unfold Hid;rw[HPs.out,HS.out,HT.out,ja (by decide),WO.out];rfl⟩
               case measure=>omega
           ·rw[he]at Yu HT;have HEE:Hid (ends (word (p.line i) 0)=true):=he;clear he
            as_aux_lemma=>
             have xV:=(H.prog.below hB).raw;obtain⟨lh,Kn⟩:=QU HEE.out;obtain⟨-,hlen⟩:=Lg (H.ml.pre.form i aL) lh Kn;have Y9:Hid (∀k,(behind (word (p.line i) 0) p.raw).1.getD k 0=78->∃n:Nat,number (word (p.line i) (k+1))=some (n:Int)/\n<p.blocks.length/\p.dr (word (p.line i) (k+1))=p.blocks.getD n 0/\p.blocks.getD n 0<p.lines.length):=H.ml.vI i aL;have HM1:Hid (word (p.line i) 0=bT->0<=p.find (aj (word (p.line i) 1))):=fun hm=>MO (f:=[111,78,78]) (H.ml.names i aL) lh (by rw[hm];cases p.raw<;>rfl) 0 (by simp) (by simp)
             have HB:∀W,Calls Tryz.prog 87 #[.string (bs (word (p.line i) 0)),.bool p.raw] W fun e w'=>e=.returned (.tuple #[.string (bs (behind (word (p.line i) 0) p.raw).1),.bool (behind (word (p.line i) 0) p.raw).2])/\w'=W:=fun W=>rT _ _ _
             have hf3:=po (word (p.line i) 0) p.raw;have HT2:Hid (p.through i (L',m)=p.eZ (p.line i) t.1 (behind (word (p.line i) 0) p.raw).1 ((behind (word (p.line i) 0) p.raw).1.length-0) 0 (L',m)):=by unfold Hid;rw[HT.out,jb rfl];rfl
             obtain⟨f,hff⟩:∃f,(behind (word (p.line i) 0) p.raw).1=f:=⟨_,rfl⟩;rw[hff]at hlen Y9 hf3 HT2;simp only[hff]at HB;have Cd:Hid ((p.line i).length=f.length+1):=hlen;clear hff HT lh Kn hlen;generalize (behind (word (p.line i) 0) p.raw).2=ok at HB;go_upto_region 21 with(go_at_call 85;refine Yu.mono ?_;rintro e wc ⟨rfl,rfl⟩)
             go_quiet ((go_at_call 87;exact(HB _).mono fun _ _ ⟨he,hm⟩=>⟨he,_,hm⟩))
             go_wp2
             clear HB Yu GH;go_loopg [5,15] (f.length) (fun g v5 v15 wr=>∃(k:Nat) (L2:List WS) (m2:Bool),k<=f.length/\g+k=f.length/\v15=.int .i64 k/\v5=.bool m2/\aT wr w.heap.size L2/\aB wr S t.1/\Below w.heap.size w wr/\L2.length=p.lines.length/\Hid (iP (L,false) (L2,m2))/\Hid (p.through i (L',m)=p.eZ (p.line i) t.1 f (f.length-k) k (L2,m2)))
             case atStart=>exact⟨0,L',m,by omega,by omega,rfl,rfl,hR.drewN _,hS.drewN _,below_drewN hB _,hL,Jw,HT2⟩
             case round=>
              clear hR hS hB hL HT2 xV sc;obtain⟨k,L2,m2,hk,GI,rfl,rfl,hR,hS,hB,hL,Cc,WR⟩:=hrel;by_cases tN:k<f.length
              ·have HSk:Hid (_=_):=p.Hw (p.line i) t.1 f f.length k (L2,m2) tN;have hkI:(k:Int)<f.length:=by omega
               have hgD:f.getD k 0=f[k]:=by simp[tN]
               by_cases hN:f.getD k 0=78
               ·have Wf:((f[k].toNat:Int)==78)=true:=by rw[<-hgD,hN];rfl
                obtain⟨nb,Cq,Kn,TW,ql⟩:=Y9.out k hN;have sc:=Cp.below rfl hB;have GH:=sc.words 0 (by have:=Cd.out;omega);have Rr:=sc.words 1 (by have:=Cd.out;omega);have Xz:=sc.words (k+1) (by have:=Cd.out;omega);have GM:(1:Int)<(p.line i).length:=by have:=Cd.out;omega
                have hlnk:(k:Int)+1<(p.line i).length:=by have:=Cd.out;omega
                have Yx:Hid (p.eZ (p.line i) t.1 f (f.length-k) k (L2,m2)=p.eZ (p.line i) t.1 f (f.length-(k+1)) (k+1) (ke (p.dr (word (p.line i) (k+1))) (p.eF (p.line i) t.1 k) (L2,m2))):=by unfold Hid;rw[HSk.out,jb hN]
                clear HSk hN hgD;have Z0:=hS.eC HF.out.ok;have hvS:=hS.dE HF.out.ok;go_upto_region 26 with fail
                go_cut [16] (fun v16 wc=>∃O,v16=.pointer (some ⟨O,0,none⟩)/\aB wc O t.1/\Hid (w.heap.size<O/\S≠O)/\aT wc w.heap.size L2/\aB wc S t.1/\Below w.heap.size w wc)
                case first=>
                 as_aux_lemma=>
                  go_wp2
                  go_meet
                  case rel=>exact⟨_,rfl,z6 wr HF.out.ok,⟨hR.lt,Nat.ne_of_lt hS.lt⟩,hR.below (fH (Below.refl _ _) (jC _) _),hS.below (fH (Below.refl _ _) (jC _) _),fH hB hB.size _⟩
                case rest=>
                 clear hR hS hB Z0 hvS sc GH Rr Xz;obtain⟨O,rfl,hO,Yy,hR,hS,hB⟩:=hcut;have sc:=Cp.below rfl hB;have GH:=sc.words 0 (by have:=Cd.out;omega);have Rr:=sc.words 1 (by have:=Cd.out;omega);go_upto_region 27 with fail
                 go_cut [140] (fun v wc'=>∃b:Bool,v=.bool b/\Hid (b=decide (word (p.line i) 0=bT/\k=1))/\wc'=wc)
                 case first=>
                  by_cases hmt:word (p.line i) 0=bT
                  ·have Qa:(word (p.line i) 0==[109,97,116,99,104])=true:=by rw[hmt];rfl
                   by_cases B8:k=1
                   ·have XJ:((k:Int)==1)=true:=by simp;omega
                    have HD:Hid (decide (word (p.line i) 0=bT/\k=1)=true):=by unfold Hid;simp[hmt,B8]
                    clear hmt;go_wp2
                    go_meet
                    case rel=>exact⟨_,rfl,HD.out.symm,rfl⟩
                   ·have XJ:((k:Int)==1)=false:=by simp;omega
                    have HD:Hid (decide (word (p.line i) 0=bT/\k=1)=false):=by unfold Hid;simp[B8]
                    clear hmt;go_wp2
                    go_meet
                    case rel=>exact⟨_,rfl,HD.out.symm,rfl⟩
                  ·have Qa:(word (p.line i) 0==[109,97,116,99,104])=false:=by simpa [bT]using hmt
                   have HD:Hid (decide (word (p.line i) 0=bT/\k=1)=false):=by unfold Hid;simp[hmt]
                   clear hmt;go_wp2
                   go_meet
                   case rel=>exact⟨_,rfl,HD.out.symm,rfl⟩
                 case rest=>
                  obtain⟨b,rfl,Hb,rfl⟩:=hcut;go_upto_if 140 with fail
                  go_cut [] (fun wc'=>aB wc' O (if word (p.line i) 0=bT/\k=1 then p.now t.1 (word (p.line i) 1) [110]else t.1)/\aT wc' w.heap.size L2/\aB wc' S t.1/\Below w.heap.size w wc')
                  case first=>
                   cases b
                   ·have hd:¬(word (p.line i) 0=bT/\k=1):=of_decide_eq_false Hb.out.symm;have HY:Hid ((if word (p.line i) 0=bT/\k=1 then p.now t.1 (word (p.line i) 1) [110]else t.1)=t.1):=by unfold Hid;rw[ja hd]
                    clear hd;go_wp2
                    go_meet
                    case rel=>exact⟨by rw[HY.out];exact hO,hR,hS,hB⟩
                   ·have hd:word (p.line i) 0=bT/\k=1:=of_decide_eq_true Hb.out.symm;have HY:Hid ((if word (p.line i) 0=bT/\k=1 then p.now t.1 (word (p.line i) 1) [110]else t.1)=p.now t.1 (word (p.line i) 1) [110]):=by unfold Hid;rw[jb hd]
                    have Re:aB wc.drew S t.1:=hS;have Z0:=Re.eC HF.out.ok;have hvS:=Re.dE HF.out.ok;have qy:=SF H (below_drewN hB 1) (i:=i) HF.out (word (p.line i) 1) [110] rfl (by simp) (HM1.out hd.1);have WU:Hid ((p.now t.1 (word (p.line i) 1) [110]).dT):=p.kD HF.out _ QZ;obtain⟨u,X6⟩:∃u,p.now t.1 (word (p.line i) 1) [110]=u:=⟨_,rfl⟩;rw[X6]at qy WU;have HUU:Hid (_=u):=X6;have YX:dh u.cells.toArray:=⟨_,WU.out.ok,rfl⟩;clear X6 hd;go_wp2_with fail
                    go_region_law (go_simp;go_at_call 88;refine qy.mono ?_;rintro e w2 ⟨rfl,bU⟩;have hhO:qh w2 O 0:=((hO.drew).below bU).eC HF.out.ok)
                    all_goals go_wp2_with fail
                    all_goals
                     go_meet
                     case rel=>exact⟨by rw[HY.out,HUU.out];exact(hO.drew.below bU).store HF.out.ok WU.out.ok,(hR.drew.below bU).other (Nat.ne_of_lt Yy.out.1) 0 _,(hS.drew.below bU).other Yy.out.2 0 _,az ((below_drewN hB 1).trans (bU.mono hB.size)) (Nat.le_of_lt Yy.out.1) 0 _⟩
                  case rest=>
                   clear hO hR hS hB sc GH Rr Hb;obtain⟨hO,hR,hS,hB⟩:=hcut;have sc:=Cp.below rfl hB;have GH:=sc.words 0 (by have:=Cd.out;omega);have Rr:=sc.words 1 (by have:=Cd.out;omega);go_upto_region 29 with fail
                   go_cut [154] (fun v wc'=>∃b:Bool,v=.bool b/\Hid (b=decide (word (p.line i) 0=bT/\k=2))/\wc'=wc)
                   case first=>
                    by_cases hmt:word (p.line i) 0=bT
                    ·have Qa:(word (p.line i) 0==[109,97,116,99,104])=true:=by rw[hmt];rfl
                     by_cases B8:k=2
                     ·have XJ:((k:Int)==2)=true:=by simp;omega
                      have HD:Hid (decide (word (p.line i) 0=bT/\k=2)=true):=by unfold Hid;simp[hmt,B8]
                      clear hmt;go_wp2
                      go_meet
                      case rel=>exact⟨_,rfl,HD.out.symm,rfl⟩
                     ·have XJ:((k:Int)==2)=false:=by simp;omega
                      have HD:Hid (decide (word (p.line i) 0=bT/\k=2)=false):=by unfold Hid;simp[B8]
                      clear hmt;go_wp2
                      go_meet
                      case rel=>exact⟨_,rfl,HD.out.symm,rfl⟩
                    ·have Qa:(word (p.line i) 0==[109,97,116,99,104])=false:=by simpa [bT]using hmt
                     have HD:Hid (decide (word (p.line i) 0=bT/\k=2)=false):=by unfold Hid;simp[hmt]
                     clear hmt;go_wp2
                     go_meet
                     case rel=>exact⟨_,rfl,HD.out.symm,rfl⟩
                   case rest=>
                    obtain⟨b,rfl,Hb,rfl⟩:=hcut;go_upto_if 154 with fail
                    go_cut [] (fun wc'=>aB wc' O (p.eF (p.line i) t.1 k)/\aT wc' w.heap.size L2/\aB wc' S t.1/\Below w.heap.size w wc')
                    case first=>
                     cases b
                     ·have hd:¬(word (p.line i) 0=bT/\k=2):=of_decide_eq_false Hb.out.symm;have HY:Hid (p.eF (p.line i) t.1 k=(if word (p.line i) 0=bT/\k=1 then p.now t.1 (word (p.line i) 1) [110]else t.1)):=by unfold Hid;unfold RP.eF;rw[ja hd]
                      clear hd;go_wp2
                      go_meet
                      case rel=>exact⟨by rw[HY.out];exact hO,hR,hS,hB⟩
                     ·have hd:word (p.line i) 0=bT/\k=2:=of_decide_eq_true Hb.out.symm;have HY:Hid (p.eF (p.line i) t.1 k=p.now t.1 (word (p.line i) 1) [119]):=by unfold Hid;unfold RP.eF;rw[jb hd]
                      rw[ja (fun h=>by omega)]at hO;have Re:aB wc.drew S t.1:=hS;have Z0:=Re.eC HF.out.ok;have hvS:=Re.dE HF.out.ok;have qy:=SF H (below_drewN hB 1) (i:=i) HF.out (word (p.line i) 1) [119] rfl (by simp) (HM1.out hd.1);have WU:Hid ((p.now t.1 (word (p.line i) 1) [119]).dT):=p.kD HF.out _ MK;obtain⟨u,X6⟩:∃u,p.now t.1 (word (p.line i) 1) [119]=u:=⟨_,rfl⟩;rw[X6]at qy WU;have HUU:Hid (_=u):=X6;have YX:dh u.cells.toArray:=⟨_,WU.out.ok,rfl⟩;clear X6 hd;go_wp2_with fail
                      go_region_law (go_simp;go_at_call 88;refine qy.mono ?_;rintro e w2 ⟨rfl,bU⟩;have hhO:qh w2 O 0:=((hO.drew).below bU).eC HF.out.ok)
                      all_goals go_wp2_with fail
                      all_goals
                       go_meet
                       case rel=>exact⟨by rw[HY.out,HUU.out];exact(hO.drew.below bU).store HF.out.ok WU.out.ok,(hR.drew.below bU).other (Nat.ne_of_lt Yy.out.1) 0 _,(hS.drew.below bU).other Yy.out.2 0 _,az ((below_drewN hB 1).trans (bU.mono hB.size)) (Nat.le_of_lt Yy.out.1) 0 _⟩
                    case rest=>
                     clear hO hR hS hB sc GH Rr Hb;obtain⟨hO,hR,hS,hB⟩:=hcut;have Zc:Hid ((p.eF (p.line i) t.1 k).dT):=p.lN HF.out _ _;obtain⟨o,hoo⟩:∃o,p.eF (p.line i) t.1 k=o:=⟨_,rfl⟩;rw[hoo]at hO Zc Yx;rw[TW]at Yx;have sc:=Cp.below rfl hB;have Xz:=sc.words (k+1) (by have:=Cd.out;omega);have HBL:=CV p a (word (p.line i) (k+1)) nb wc (H.prog.below hB) H.ok (by have:=H.ok.long i (k+1);unfold maxLen;omega) Cq Kn;clear hoo TW Cq;have U2:p.blocks.getD nb 0<L2.length:=by omega
                     obtain⟨bb,B7⟩:∃bb,p.blocks.getD nb 0=bb:=⟨_,rfl⟩;rw[B7]at HBL Yx U2 ql;clear B7;have hbbI:(bb:Int)<p.lines.length:=by omega
                     as_aux_lemma=>
                      have hGb:=fV Cc.out.rows U2 Zc.out;have HGr3:Hid (iP (L,false) (ke bb o (L2,m2))):=Cc.out.trans hGb;have WO:Hid (ke bb o (L2,m2)=(L2.set bb ((lw L2 bb).add o).1,m2||((lw L2 bb).add o).2)):=rfl;have Nr:Hid (((lw L2 bb).add o).1.dT):=WS.zA (Cc.out.rows.fe bb) Zc.out;have Nq:=fun W=>FO (lw L2 bb) o W (Cc.out.rows.fe bb) Zc.out
                      obtain⟨r,XW⟩:∃r,(lw L2 bb).add o=r:=⟨_,rfl⟩;simp only[XW]at Nq;rw[XW]at Nr WO;clear XW hGb;have oD:dh r.1.cells.toArray:=⟨_,Nr.out.ok,rfl⟩;go_upto_region 32 with(go_at_call 89;refine HBL.mono ?_;rintro e wd ⟨rfl,yW⟩;have HWD:Hid (∃nd,wd=wc.drewN nd):=yW;clear yW)
                      obtain⟨nd,yW⟩:=HWD.out;clear HWD
                      replace hO:aB wd O o:=by rw[yW];exact hO.drewN nd
                      replace hR:aT wd w.heap.size L2:=by rw[yW];exact hR.drewN nd
                      replace hS:aB wd S t.1:=by rw[yW];exact hS.drewN nd
                      replace hB:Below w.heap.size w wd:=by rw[yW];exact below_drewN hB nd
                      clear yW sc Xz;go_cut [18,19] (fun v18 v19 wc'=>∃T,v18=.pointer (some ⟨T,0,none⟩)/\v19=.bool r.2/\aB wc' T r.1/\Hid (w.heap.size<T)/\aT wc' w.heap.size L2/\aB wc' S t.1/\Below w.heap.size w wc')
                      case first=>
                       refine RefZeT.reg32 w.heap.size p.lines.length bb O r o L2 wd _ _ _ _ _ _ _ _ (by omega) hL Cc.out.rows Zc.out Nr.out hO hR Nq ?_;intro x168 x169 x170 x171 x172 x173 x174 x175 x176 T w' hT' hGT hR' Ep;go_wp2_with fail
                       go_meet
                       case rel=>exact⟨T,rfl,rfl,hT',hGT,hR',hS.below Ep,hB.trans (Ep.mono hB.size)⟩
                      case rest=>
                       clear Nq hR hB hS hO;obtain⟨T,rfl,rfl,hT,HTG,hR,hS,hB⟩:=hcut;have hhT:=hT.eC Nr.out.ok;have hvT:=hT.dE Nr.out.ok;have hhR:=hR.eC Cc.out.rows bb U2;cases m2
                       all_goals
                        go_wp2
                        go_roundg (f.length-(k+1))
                        case rel=>exact⟨k+1,L2.set bb r.1,_,by omega,by omega,by go_num,rfl,hR.store bb U2 Nr.out.ok,hS.other (Nat.ne_of_gt HSG.out) _ _,az hB (jC _) _ _,by rw[List.length_set];exact hL,by have:=HGr3.out;rw[WO.out]at this;exact this,by unfold Hid;rw[WR.out,Yx.out,WO.out];rfl⟩
                        case measure=>omega
               ·have Wf:((f[k].toNat:Int)==78)=false:=by
                 rw[<-hgD];have:¬(f.getD k 0).toNat=78:=fun h=>hN ((kW (f.getD k 0) 78 (by omega)).mpr h)
                 rw[jZ];omega
                have Yx:Hid (p.eZ (p.line i) t.1 f (f.length-k) k (L2,m2)=p.eZ (p.line i) t.1 f (f.length-(k+1)) (k+1) (L2,m2)):=by unfold Hid;rw[HSk.out,ja hN]
                clear HSk hN hgD
                as_aux_lemma=>
                 go_wp2
                 go_roundg (f.length-(k+1))
                 case rel=>exact⟨k+1,L2,m2,by omega,by omega,by go_num,rfl,hR,hS,hB,hL,Cc,by unfold Hid;rw[WR.out,Yx.out]⟩
                 case measure=>omega
              ·as_aux_lemma=>
                have hkI:¬(k:Int)<f.length:=by omega
                have HX:Hid (p.through i (L',m)=(L2,m2)):=by unfold Hid;rw[WR.out,show f.length-k=0 by omega];rfl
                go_wp2
                go_roundg (p.lines.length-(i+1))
                case rel=>exact⟨i+1,L2,m2,by omega,by omega,by go_num,rfl,hR,hB,hL,Cc,by unfold Hid;rw[HPs.out,HS.out,HX.out]⟩
                case measure=>omega
        ·as_aux_lemma=>
          have mZ:=(zM.below rfl hB).all;have U0:¬(i:Int)<p.lines.length:=by omega
          have HX:Hid (p.pass L=(L',m)):=by unfold Hid;rw[HPs.out,show p.lines.length-i=0 by omega];rfl
          go_wp2
          go_roundg (if m then 97*p.lines.length-total L'+1 else 0)
          case rel=>exact⟨L',m,rfl,jC _,hR,hB,hL,Jw.out.rows,⟨fun hm=>by have:=RP.Reach.pass L (HQ.out.1 (by first|trivial|rfl)) (by rw[HX.out];exact hm);rwa [HX.out]at this,fun hm=>⟨L,HQ.out.1 (by first|trivial|rfl),by rw[HX.out,hm]⟩⟩⟩
          case measure=>
           have h1:=HG.out;have h3:=TA Jw.out.rows;have h4:=Jw.out.told;go_light
           simp only[if_true]at h1 h3 h4;rw[hL]at h3;cases m
           ·simp;omega
           ·have:=h4 rfl;simp at this⊢;omega
end RefZe
end Go.Proofs.YtmlgajhhnojdjaaGreatDoor

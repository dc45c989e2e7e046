import Derived.Test.YtmlgajhhnojdjaaGreatDoorRBF
import Derived.Test.YtmlgajhhnojdjaaGreatDoorRBH
namespace Go.Proofs.YtmlgajhhnojdjaaGreatDoor
namespace RefZe
open Go.RowKit Sq RefA RefD RefP RefR RefT RefU RefZc RefZd Aux
attribute [local go_sem ↓] mN kX
attribute [local go_sem] zH
attribute [local go_sem ↓] zt yx
attribute [local go_sem] iG gv lL lR iI
structure Qq (text:B)(p:RP)(a:Nat)(w:World):Prop where
 prog:bd w a p
 ok:p.Ok
 mi:aE text false p
theorem Sk {w:World}{a:Nat}{p:RP}(h:bd w a p)(i:Nat)(hi:i<p.lines.length):
  ∃(g cap gl dr:Nat),w.cell? ⟨a,0,none⟩=some (.slice (some ⟨g,0,none⟩) p.lines.length cap)/\p.lines.length<=cap/\g<w.heap.size/\gl<w.heap.size/\w.cell? ⟨g,i,none⟩=some (.slice (some ⟨gl,0,none⟩) (p.line i).length dr)/\(p.line i).length<=dr/\
   ∀j,j<(p.line i).length->w.cell? ⟨gl,j,none⟩=some (.string (bs (word (p.line i) j))):=by
 obtain⟨v,hv,hr⟩:=h.lines;rcases hr with⟨he,_⟩|⟨g,cap,rfl,hc,hg,aC⟩
 ·rw[he]at hi;simp at hi
 ·obtain⟨u,hu,gl,dr,rfl,AV,Wg,hw⟩:=aC i hi;exact⟨g,cap,gl,dr,hv,hc,hg,Wg,hu,AV,hw⟩
structure z8 (p:RP)(a i g cap gl dr:Nat)(w:World):Prop where
 all:w.cell? ⟨a,0,none⟩=some (.slice (some ⟨g,0,none⟩) p.lines.length cap)
 cap:p.lines.length<=cap
 alt:a<w.heap.size
 glt:g<w.heap.size
 row:gl<w.heap.size
 line:w.cell? ⟨g,i,none⟩=some (.slice (some ⟨gl,0,none⟩) (p.line i).length dr)
 dr:(p.line i).length<=dr
 words:∀j,j<(p.line i).length->w.cell? ⟨gl,j,none⟩=some (.string (bs (word (p.line i) j)))
theorem z8.below {p:RP}{a i g cap gl dr:Nat}{w w':World}{n:Nat}(h:z8 p a i g cap gl dr w)(hn:n=w.heap.size)(hb:Below n w w'):z8 p a i g cap gl dr w':=by
 subst hn;have hs:=hb.size;exact⟨(hb.cell (p:=⟨a,0,none⟩) h.alt).trans h.all,h.cap,by have:=h.alt;omega,by have:=h.glt;omega,by have:=h.row;omega,(hb.cell (p:=⟨g,i,none⟩) h.glt).trans h.line,h.dr,fun j hj=>(hb.cell (p:=⟨gl,j,none⟩) h.row).trans (h.words j hj)⟩
theorem EK {w:World}{a:Nat}{p:RP}(h:bd w a p)(i:Nat)(hi:i<p.lines.length):∃g cap gl dr,z8 p a i g cap gl dr w:=by
 obtain⟨g,cap,gl,dr,h1,h2,h3,h4,h5,h6,h7⟩:=Sk h i hi;exact⟨g,cap,gl,dr,h1,h2,h.lt,h3,h4,h5,h6,h7⟩
theorem Nk {text:B}{p:RP}{a:Nat}{w:World}(H:Qq text p a w){i g cap gl dr:Nat}{wr:World}(hB:Below w.heap.size w wr)(hl:z8 p a i g cap gl dr wr)(hi:i<p.lines.length){s:WS}(hs:s.dS):
  Calls Tryz.prog 84 #[.pointer (some ⟨a,0,none⟩),.slice (some ⟨gl,0,none⟩) (p.line i).length dr,.agg s.cells.toArray] wr fun e w'=>e=.returned (.tuple #[.agg (p.step (p.line i) s).1.cells.toArray,.bool (p.step (p.line i) s).2])/\Below wr.heap.size wr w':=by
 have SI:iT p a s (p.line i) gl wr:=⟨H.prog.below hB,H.ok,hs.ok,H.mi.pre.aV,hl.row,H.ok.words i hi,hl.words,fun j=>by have:=H.ok.long i j;unfold maxLen;omega,H.ok.wide i⟩;exact Tq p a s i gl dr wr SI (by have:=H.mi.pre.form i hi;rwa [H.mi.raw]at this) (H.mi.names i hi) H.mi.raw hs
theorem FN (s o:WS)(w:World)(hs:s.dS)(ho:o.dS):
  Calls Tryz.prog 86 #[.agg s.cells.toArray,.agg o.cells.toArray] w fun e w'=>e=.returned (.tuple #[.agg (s.add o).1.cells.toArray,.bool (s.add o).2])/\Below w.heap.size w w':=Nv s o w hs ho
theorem SE {text:B}{p:RP}{a:Nat}{w:World}(H:Qq text p a w){wr:World}(hB:Below w.heap.size w wr){i:Nat}{s:WS}(hs:s.dS)(l c:B)(hl:l=word (p.line i) 1)(hc:c.length<=1000)(hf:0<=p.find (ai l)):
  Calls Tryz.prog 88 #[.pointer (some ⟨a,0,none⟩),.agg s.cells.toArray,.string (bs l),.string (bs c)] wr fun e w'=>e=.returned (.agg (p.now s l c).cells.toArray)/\Below wr.heap.size wr w':=
 kB p a s l c wr (H.prog.below hB) H.ok hs.ok (by rw[hl];have:=H.ok.long i 1;unfold maxLen;omega) hc hf H.mi.pre.aV
theorem QT {w:B}(h:ends w=true):¬w=cv/\¬w=aQ:=by
 constructor
 ·intro e;rw[e]at h;exact absurd h (by decide)
 ·intro e;rw[e]at h;exact absurd h (by decide)
def mG (i:Nat):WS:=⟨false,List.replicate i [45]++List.replicate (24-i) []⟩
theorem VI (i:Nat)(hi:i<=24):(mG i).Ok:=by
 refine⟨by simp[mG];omega,fun k=> ?_⟩;unfold WS.at mG;simp only[List.getD_eq_getElem?_getD,List.getElem?_append,List.getElem?_replicate]
 repeat' split
 all_goals simp
theorem LG (i:Nat)(hi:i<24):(mG (i+1)).cells=(mG i).cells.set (1+i) (.string (bs [45])):=by
 unfold mG WS.cells;rw[Nat.add_comm 1 i,List.set_cons_succ,<-List.map_set];congr 2;rw[List.set_append_right _ _ (by simp),List.length_replicate,Nat.sub_self,show 24-i=(24-(i+1))+1 by omega,List.replicate_succ' (n:=i),List.append_assoc,List.replicate_succ (n:=24-(i+1)),List.set_cons_zero];rfl
theorem S0:(jz).cells=(mG 24).cells.set 0 (.bool true):=rfl
set_option maxRecDepth 20000 in
set_option maxHeartbeats 80000000 in
theorem VT (text:B)(p:RP)(a:Nat)(w:World)(H:Qq text p a w):
  Calls Tryz.prog 52 #[.pointer (some ⟨a,0,none⟩)] w fun e w'=>(∃L,p.iS L/\e=.returned (.int .i64 (p.cV L p.lines.length 0)))/\Below w.heap.size w w':=by
 have hn:=H.ok.size;have HP:=H.mi.pos;have av:p.blocks.getD 0 0<p.lines.length:=H.mi.first.2;obtain⟨g0,cap0,gl0,capl0,zL⟩:=EK H.prog 0 H.mi.pos;have mY:=zL.all;have XL:=CD p.lines.length hn;go_enter Tryz.func52,Tryz.ntmps52
 go_upto_region 1 with fail
 go_cut [3] (fun v3 wc=>v3=.slice (some ⟨w.heap.size,0,none⟩) p.lines.length p.lines.length/\aS wc w.heap.size (List.replicate p.lines.length aH)/\Below w.heap.size w wc)
 case first=>
  go_wp2
  go_meet
  case rel=>exact⟨rfl,Bk w _,bF _ _⟩
 case rest=>
  clear XL mY;obtain⟨rfl,hR,hB⟩:=hcut;go_wp2
  go_loopg [4] (24) (fun g v4 wr=>∃i:Nat,i<=24/\g+i=24/\v4=.int .i64 i/\aS wr w.heap.size ((List.replicate p.lines.length aH).set (p.blocks.getD 0 0) (mG i))/\Below w.heap.size w wr)
  case atStart=>
   refine⟨0,by omega,rfl,rfl,?_,hB⟩;have:(List.replicate p.lines.length aH).set (p.blocks.getD 0 0) (mG 0)=List.replicate p.lines.length aH:=by
    apply List.ext_getElem?
    intro j;rw[jd];split
    ·rename_i hj;rw[<-hj,jb (by simpa using av),jO,jb av];rfl
    ·rfl
   rw[this];exact hR
  case round=>
   clear hR hB;obtain⟨i,hi,YN,rfl,hR,hB⟩:=hrel;obtain⟨gb,capb,FB,ZI,fB⟩:=(H.prog.below hB).An 0 H.mi.first.1;have qk:(0:Int)<p.blocks.length:=by have:=H.mi.first.1;omega
   obtain⟨b0,Xo⟩:∃b0,p.blocks.getD 0 0=b0:=⟨_,rfl⟩;rw[Xo]at av fB hR;have HB0:Hid (p.blocks.getD 0 0=b0):=Xo;clear Xo;by_cases aK:i<24
   ·have hlen:b0<((List.replicate p.lines.length aH).set b0 (mG i)).length:=by simpa using av
    as_aux_lemma=>
     have hfr:=hR.frozen (b0*25+1+i);have T7:=hR.there b0 hlen (1+i) (by omega);rw[<-Nat.add_assoc]at T7;obtain⟨T7,-⟩:=T7;obtain⟨v0,hv0⟩:=Option.isSome_iff_exists.mp T7;clear T7;go_wp2
     go_roundg (24-(i+1))
     case rel=>
      refine⟨i+1,by omega,by omega,by go_num,?_,hB.setCell (jC _) _⟩;have:=hR.setCell b0 (1+i) hlen (by omega) (.string (bs [45])) (VI (i+1) (by omega)) (by rw[lh _ _ _ (by simpa using av),jb rfl];exact LG i aK);rw[List.set_set,<-Nat.add_assoc]at this;rw[HB0.out];exact this
     case measure=>omega
   ·obtain rfl:i=24:=by omega
    have hlen:b0<((List.replicate p.lines.length aH).set b0 (mG 24)).length:=by simpa using av
    have hfr:=hR.frozen (b0*25);have zK:=hR.known b0 hlen;go_upto_region 6 with fail
    go_cut [44] (fun v44 wc=>aS wc w.heap.size p.iz/\Below w.heap.size w wc)
    case first=>
     as_aux_lemma=>
      go_wp2
      go_meet
      case rel=>
       refine⟨?_,hB.setCell (jC _) _⟩;have:=hR.setCell b0 0 hlen (by omega) (.bool true) rA.ok (by rw[lh _ _ _ (by simpa using av),jb rfl];exact S0);rw[List.set_set]at this;unfold RP.iz;rw[HB0.out];exact this
    case rest=>
     clear hR hB hfr zK FB ZI fB qk hlen;obtain⟨hR,hB⟩:=hcut;have HS:Hid (cO p.iz/\p.iz.length=p.lines.length):=tC (by rw[HB0.out];exact av);clear HB0 av;go_wp2
     go_loopg [5] (97*p.lines.length+1) (fun g v5 wr=>∃(L:List WS) (m:Bool),v5=.bool m/\Hid ((if m then 97*p.lines.length-total L+1 else 0)<=g)/\aS wr w.heap.size L/\Below w.heap.size w wr/\L.length=p.lines.length/\Hid (cO L)/\Hid ((m=true->p.Reach L)/\(m=false->p.iS L)))
     case atStart=>exact⟨p.iz,true,rfl,by unfold Hid;simp,hR,hB,HS.out.2,HS.out.1,⟨fun _=> .start,fun h=>by cases h⟩⟩
     case round=>
      clear hR hB HS;obtain⟨L,m,rfl,HG,hR,hB,hL,HO,HQ⟩:=hrel;cases m
      ·
       have Zc:Hid (p.iS L):=HQ.out.2 rfl;clear HQ HG;go_wp2
       go_loopg [20] (p.lines.length) (fun g v20 wr=>∃i:Nat,i<=p.lines.length/\g+i=p.lines.length/\v20=.int .i64 i/\aS wr w.heap.size L/\Below w.heap.size w wr/\Hid (p.cV L p.lines.length 0=p.cV L (p.lines.length-i) i))
       case atStart=>exact⟨0,by omega,by omega,rfl,hR,hB,rfl⟩
       case round=>
        clear hR hB;obtain⟨i,hi,YN,rfl,hR,hB,HI⟩:=hrel;by_cases aK:i<p.lines.length
        ·obtain⟨g0,cap0,gl,dr,Co⟩:=EK H.prog i aK;have sb:=Co.below rfl hB;have mY:=sb.all;have AV:=sb.line;have Cn:i<L.length:=by omega
         have UZ:(i:Int)<p.lines.length:=by omega
         have HS:Hid (_=_):=p.Ee L p.lines.length i aK;have HF:Hid ((p.step (p.line i) (lw L i)).1.dS):=p.kU (HO.out.fc i) _;obtain⟨t,YV⟩:∃t,p.step (p.line i) (lw L i)=t:=⟨_,rfl⟩;rw[YV]at HF HS;have HTT:Hid (p.step (p.line i) (lw L i)=t):=YV;clear YV;go_upto_region 38 with fail
         go_cut [22] (fun v22 wc=>v22=.bool t.2/\aS wc w.heap.size L/\Below w.heap.size w wc)
         case first=>
          refine RefZeR.reg38 a w.heap.size p.lines.length i g0 cap0 gl dr (p.line i).length t (lw L i) L wr _ _ _ _ _ aK Cn HO.out rfl HF.out hR (fun W hW=>(sb.below rfl hW).all) (fun W hW=>(sb.below rfl hW).line) (fun W hW=>by have:=Nk H (hB.trans (hW.mono hB.size)) (sb.below rfl hW) aK (HO.out.fc i);rw[HTT.out]at this;exact this) ?_;intro x194 x195 x196 x197 x198 x199 x200 x201 x202 x203 x204 x205 x206 x207 x208 x209 x21 w' hR' Eo;go_wp2_with fail
          go_meet
          case rel=>exact⟨rfl,hR',hB.trans (Eo.mono hB.size)⟩
         case rest=>
          as_aux_lemma=>
           clear hR hB sb mY AV HTT;obtain⟨rfl,hR,hB⟩:=hcut;have zK:=hR.known i Cn;cases hk:(lw L i).known
           ·rw[hk]at zK;have HX:Hid (p.cV L p.lines.length 0=p.cV L (p.lines.length-(i+1)) (i+1)):=by
             unfold Hid;rw[HI.out,HS.out,hk];rfl
            clear hk;go_wp2
            go_roundg (p.lines.length-(i+1))
            case rel=>exact⟨i+1,by omega,by omega,by go_num,hR,hB,HX⟩
            case measure=>omega
           ·rw[hk]at zK;cases ht:t.2
            ·have HX:Hid (p.cV L p.lines.length 0=(i:Int)):=by
              unfold Hid;rw[HI.out,HS.out,hk,ht];rfl
             clear hk;go_wp2
             go_ret
             exact⟨⟨L,Zc.out,by rw[HX.out];rfl⟩,hB⟩
            ·have HX:Hid (p.cV L p.lines.length 0=p.cV L (p.lines.length-(i+1)) (i+1)):=by
              unfold Hid;rw[HI.out,HS.out,hk,ht];rfl
             clear hk;go_wp2
             go_roundg (p.lines.length-(i+1))
             case rel=>exact⟨i+1,by omega,by omega,by go_num,hR,hB,HX⟩
             case measure=>omega
        ·as_aux_lemma=>
          have mY:=(zL.below rfl hB).all;have UZ:¬(i:Int)<p.lines.length:=by omega
          have HX:Hid (p.cV L p.lines.length 0= -1):=by unfold Hid;rw[HI.out,show p.lines.length-i=0 by omega];rfl
          go_wp2
          go_ret
          exact⟨⟨L,Zc.out,by rw[HX.out];rfl⟩,hB⟩
      ·go_wp2
       go_loopg [5,6] (p.lines.length) (fun g v5 v6 wr=>∃(i:Nat) (L':List WS) (m:Bool),i<=p.lines.length/\g+i=p.lines.length/\v6=.int .i64 i/\v5=.bool m/\aS wr w.heap.size L'/\Below w.heap.size w wr/\L'.length=p.lines.length/\Hid (iO (L,false) (L',m))/\Hid (p.pass L=p.ix (p.lines.length-i) i (L',m)))
       case atStart=>exact⟨0,L,false,by omega,by omega,rfl,rfl,hR,hB,hL,iO.refl HO.out,rfl⟩
       case round=>
        clear hR hB hL;obtain⟨i,L',m,hi,YN,rfl,rfl,hR,hB,hL,Jv,HPs⟩:=hrel;by_cases aK:i<p.lines.length
        ·obtain⟨g0,cap0,gl,dr,Co⟩:=EK H.prog i aK;have sb:=Co.below rfl hB;have mY:=sb.all;have AV:=sb.line;have Cn:i<L'.length:=by omega
         have zK:=hR.known i Cn;have HS:Hid (_=_):=p.IA p.lines.length i (L',m) aK;have UZ:(i:Int)<p.lines.length:=by omega
         cases Wi:(lw L' i).known
         ·rw[Wi]at zK;have HT:Hid (p.through i (L',m)=(L',m)):=by unfold Hid RP.through;simp only;rw[Wi];rfl
          clear Wi
          as_aux_lemma=>
           go_wp2
           go_roundg (p.lines.length-(i+1))
           case rel=>exact⟨i+1,L',m,by omega,by omega,by go_num,rfl,hR,hB,hL,Jv,by unfold Hid;rw[HPs.out,HS.out,HT.out]⟩
           case measure=>omega
         ·rw[Wi]at zK;have hh:=hR.eB Jv.out.rows i Cn;have hv:=hR.dD Jv.out.rows i Cn;have Ud:=Nk H hB sb aK (Jv.out.rows.fc i);have HF:Hid ((p.step (p.line i) (lw L' i)).1.dS):=p.kU (Jv.out.rows.fc i) _;have HT:Hid (p.through i (L',m)=if ends (word (p.line i) 0)then p.lead (p.line i) (p.step (p.line i) (lw L' i)).1 (L',m)else kd (i+1) (p.step (p.line i) (lw L' i)).1 (L',m)):=by
           unfold Hid RP.through;simp only;rw[Wi];rfl
          obtain⟨t,YV⟩:∃t,p.step (p.line i) (lw L' i)=t:=⟨_,rfl⟩;rw[YV]at Ud HF HT;clear YV Wi;have xS:df t.1.cells.toArray:=⟨_,HF.out.ok,rfl⟩;go_upto_region 15 with fail
          go_cut [8] (fun v8 wc=>∃S,v8=.pointer (some ⟨S,0,none⟩)/\aA wc S t.1/\Hid (wr.heap.size<=S)/\Below wr.heap.size wr wc)
          case first=>
           as_aux_lemma=>
            go_wp2_with (go_at_call 84;refine Ud.mono ?_;rintro e w1 ⟨rfl,av⟩)
            go_meet
            case rel=>exact⟨_,rfl,zZ w1 HF.out.ok,av.size,fG av av.size _⟩
          case rest=>
           obtain⟨S,rfl,hS,HSz,lu⟩:=hcut;have HSG:Hid (w.heap.size<S):=by have:=HSz.out;have:=hR.lt;unfold Hid;omega
           replace hR:=hR.below lu
           have hB0:=hB.size
           replace hB:=hB.trans (lu.mono hB0)
           replace sb:=sb.below rfl lu
           have GG:=sb.words 0 (H.ok.words i aK);have mw:(0:Int)<(p.line i).length:=by have:=H.ok.words i aK;omega
           clear Ud hh hv zK mY AV lu HSz hB0;have Yt:=Ed (word (p.line i) 0) wc;cases he:ends (word (p.line i) 0)
           ·rw[he]at Yt HT;have mP:i+1<L'.length:=by have:=H.mi.next i aK he;omega
            clear he
            as_aux_lemma=>
             have Np:=fun W=>FN (lw L' (i+1)) t.1 W (Jv.out.rows.fc (i+1)) HF.out
             have Nq:Hid (((lw L' (i+1)).add t.1).1.dS):=WS.zy (Jv.out.rows.fc (i+1)) HF.out;have Cb:Hid (iO (L,false) (kd (i+1) t.1 (L',m))):=Jv.out.trans (fU Jv.out.rows mP HF.out);have WN:Hid (kd (i+1) t.1 (L',m)=(L'.set (i+1) ((lw L' (i+1)).add t.1).1,m||((lw L' (i+1)).add t.1).2)):=rfl;obtain⟨r,XV⟩:∃r,(lw L' (i+1)).add t.1=r:=⟨_,rfl⟩;simp only[XV]at Np;rw[XV]at Nq WN;clear XV;have oC:df r.1.cells.toArray:=⟨_,Nq.out.ok,rfl⟩;have hnx1:(i:Int)+1<p.lines.length:=by omega
             have hnx0:(0:Int)<=(i:Int)+1:=by omega
             have YY:IntKind.i64.wrap ((i:Int)+1)=(i:Int)+1:=by rw[IntKind.wrap_i64];omega
             have htn:((i:Int)+1).toNat=i+1:=by omega
             go_upto_region 18 with(go_at_call 85;refine Yt.mono ?_;rintro e wc ⟨rfl,rfl⟩)
             go_cut [11,12] (fun v11 v12 wc'=>∃T,v11=.pointer (some ⟨T,0,none⟩)/\v12=.bool r.2/\aA wc' T r.1/\Hid (w.heap.size<T)/\aS wc' w.heap.size L'/\Below w.heap.size w wc')
             case first=>
              refine RefZeS.reg18 w.heap.size p.lines.length i S r t.1 L' wc _ _ _ _ _ _ _ (by omega) hn hL Jv.out.rows HF.out Nq.out hS hR Np ?_;intro x92 x93 x94 x95 x96 x97 x98 x99 x100 x101 T w' hT' hGT hR' Eo;go_wp2_with fail
              go_meet
              case rel=>exact⟨T,rfl,rfl,hT',hGT,hR',hB.trans (Eo.mono hB.size)⟩
             case rest=>
              clear Np hR hB hS sb GG Yt;obtain⟨T,rfl,rfl,hT,HTG,hR,hB⟩:=hcut;have hhT:=hT.eB Nq.out.ok;have hvT:=hT.dD Nq.out.ok;have hhR:=hR.eB Jv.out.rows (i+1) mP;cases m
              all_goals
               go_wp2
               go_roundg (p.lines.length-(i+1))
               case rel=>exact⟨i+1,L'.set (i+1) r.1,_,by omega,by omega,by go_num,rfl,hR.store (i+1) mP Nq.out.ok,ay hB (jC _) _ _,by rw[List.length_set];exact hL,by have:=Cb.out;rw[WN.out]at this;exact this,by unfold Hid;rw[HPs.out,HS.out,HT.out,ja (by decide),WN.out];rfl⟩
               case measure=>omega
           ·rw[he]at Yt HT;have HEE:Hid (ends (word (p.line i) 0)=true):=he;clear he
            as_aux_lemma=>
             have xU:=(H.prog.below hB).raw;obtain⟨lg,Km⟩:=QT HEE.out;obtain⟨-,hlen⟩:=Lf (H.mi.pre.form i aK) lg Km;have Y8:Hid (∀k,(behind (word (p.line i) 0) p.raw).1.getD k 0=78->∃n:Nat,number (word (p.line i) (k+1))=some (n:Int)/\n<p.blocks.length/\p.dq (word (p.line i) (k+1))=p.blocks.getD n 0/\p.blocks.getD n 0<p.lines.length):=H.mi.vH i aK;have HM1:Hid (word (p.line i) 0=bS->0<=p.find (ai (word (p.line i) 1))):=fun hm=>MN (f:=[111,78,78]) (H.mi.names i aK) lg (by rw[hm];cases p.raw<;>rfl) 0 (by simp) (by simp)
             have HB:∀W,Calls Tryz.prog 87 #[.string (bs (word (p.line i) 0)),.bool p.raw] W fun e w'=>e=.returned (.tuple #[.string (bs (behind (word (p.line i) 0) p.raw).1),.bool (behind (word (p.line i) 0) p.raw).2])/\w'=W:=fun W=>rR _ _ _
             have hf3:=pn (word (p.line i) 0) p.raw;have HT2:Hid (p.through i (L',m)=p.eY (p.line i) t.1 (behind (word (p.line i) 0) p.raw).1 ((behind (word (p.line i) 0) p.raw).1.length-0) 0 (L',m)):=by unfold Hid;rw[HT.out,jb rfl];rfl
             obtain⟨f,hff⟩:∃f,(behind (word (p.line i) 0) p.raw).1=f:=⟨_,rfl⟩;rw[hff]at hlen Y8 hf3 HT2;simp only[hff]at HB;have Cc:Hid ((p.line i).length=f.length+1):=hlen;clear hff HT lg Km hlen;generalize (behind (word (p.line i) 0) p.raw).2=ok at HB;go_upto_region 21 with(go_at_call 85;refine Yt.mono ?_;rintro e wc ⟨rfl,rfl⟩)
             go_quiet ((go_at_call 87;exact(HB _).mono fun _ _ ⟨he,hm⟩=>⟨he,_,hm⟩))
             go_wp2
             clear HB Yt GG;go_loopg [5,15] (f.length) (fun g v5 v15 wr=>∃(k:Nat) (L2:List WS) (m2:Bool),k<=f.length/\g+k=f.length/\v15=.int .i64 k/\v5=.bool m2/\aS wr w.heap.size L2/\aA wr S t.1/\Below w.heap.size w wr/\L2.length=p.lines.length/\Hid (iO (L,false) (L2,m2))/\Hid (p.through i (L',m)=p.eY (p.line i) t.1 f (f.length-k) k (L2,m2)))
             case atStart=>exact⟨0,L',m,by omega,by omega,rfl,rfl,hR.drewN _,hS.drewN _,below_drewN hB _,hL,Jv,HT2⟩
             case round=>
              clear hR hS hB hL HT2 xU sb;obtain⟨k,L2,m2,hk,GH,rfl,rfl,hR,hS,hB,hL,Cb,WQ⟩:=hrel;by_cases tM:k<f.length
              ·have HSk:Hid (_=_):=p.Hv (p.line i) t.1 f f.length k (L2,m2) tM;have hkI:(k:Int)<f.length:=by omega
               have hgD:f.getD k 0=f[k]:=by simp[tM]
               by_cases hN:f.getD k 0=78
               ·have We:((f[k].toNat:Int)==78)=true:=by rw[<-hgD,hN];rfl
                obtain⟨nb,Cp,Km,TV,qk⟩:=Y8.out k hN;have sb:=Co.below rfl hB;have GG:=sb.words 0 (by have:=Cc.out;omega);have Rq:=sb.words 1 (by have:=Cc.out;omega);have Xy:=sb.words (k+1) (by have:=Cc.out;omega);have GL:(1:Int)<(p.line i).length:=by have:=Cc.out;omega
                have hlnk:(k:Int)+1<(p.line i).length:=by have:=Cc.out;omega
                have Yw:Hid (p.eY (p.line i) t.1 f (f.length-k) k (L2,m2)=p.eY (p.line i) t.1 f (f.length-(k+1)) (k+1) (kd (p.dq (word (p.line i) (k+1))) (p.eE (p.line i) t.1 k) (L2,m2))):=by unfold Hid;rw[HSk.out,jb hN]
                clear HSk hN hgD;have ZZ:=hS.eB HF.out.ok;have hvS:=hS.dD HF.out.ok;go_upto_region 26 with fail
                go_cut [16] (fun v16 wc=>∃O,v16=.pointer (some ⟨O,0,none⟩)/\aA wc O t.1/\Hid (w.heap.size<O/\S≠O)/\aS wc w.heap.size L2/\aA wc S t.1/\Below w.heap.size w wc)
                case first=>
                 as_aux_lemma=>
                  go_wp2
                  go_meet
                  case rel=>exact⟨_,rfl,zZ wr HF.out.ok,⟨hR.lt,Nat.ne_of_lt hS.lt⟩,hR.below (fG (Below.refl _ _) (jC _) _),hS.below (fG (Below.refl _ _) (jC _) _),fG hB hB.size _⟩
                case rest=>
                 clear hR hS hB ZZ hvS sb GG Rq Xy;obtain⟨O,rfl,hO,Yx,hR,hS,hB⟩:=hcut;have sb:=Co.below rfl hB;have GG:=sb.words 0 (by have:=Cc.out;omega);have Rq:=sb.words 1 (by have:=Cc.out;omega);go_upto_region 27 with fail
                 go_cut [140] (fun v wc'=>∃b:Bool,v=.bool b/\Hid (b=decide (word (p.line i) 0=bS/\k=1))/\wc'=wc)
                 case first=>
                  by_cases hmt:word (p.line i) 0=bS
                  ·have P9:(word (p.line i) 0==[109,97,116,99,104])=true:=by rw[hmt];rfl
                   by_cases B7:k=1
                   ·have XI:((k:Int)==1)=true:=by simp;omega
                    have HD:Hid (decide (word (p.line i) 0=bS/\k=1)=true):=by unfold Hid;simp[hmt,B7]
                    clear hmt;go_wp2
                    go_meet
                    case rel=>exact⟨_,rfl,HD.out.symm,rfl⟩
                   ·have XI:((k:Int)==1)=false:=by simp;omega
                    have HD:Hid (decide (word (p.line i) 0=bS/\k=1)=false):=by unfold Hid;simp[B7]
                    clear hmt;go_wp2
                    go_meet
                    case rel=>exact⟨_,rfl,HD.out.symm,rfl⟩
                  ·have P9:(word (p.line i) 0==[109,97,116,99,104])=false:=by simpa [bS]using hmt
                   have HD:Hid (decide (word (p.line i) 0=bS/\k=1)=false):=by unfold Hid;simp[hmt]
                   clear hmt;go_wp2
                   go_meet
                   case rel=>exact⟨_,rfl,HD.out.symm,rfl⟩
                 case rest=>
                  obtain⟨b,rfl,Hb,rfl⟩:=hcut;go_upto_if 140 with fail
                  go_cut [] (fun wc'=>aA wc' O (if word (p.line i) 0=bS/\k=1 then p.now t.1 (word (p.line i) 1) [110]else t.1)/\aS wc' w.heap.size L2/\aA wc' S t.1/\Below w.heap.size w wc')
                  case first=>
                   cases b
                   ·have hd:¬(word (p.line i) 0=bS/\k=1):=of_decide_eq_false Hb.out.symm;have HY:Hid ((if word (p.line i) 0=bS/\k=1 then p.now t.1 (word (p.line i) 1) [110]else t.1)=t.1):=by unfold Hid;rw[ja hd]
                    clear hd;go_wp2
                    go_meet
                    case rel=>exact⟨by rw[HY.out];exact hO,hR,hS,hB⟩
                   ·have hd:word (p.line i) 0=bS/\k=1:=of_decide_eq_true Hb.out.symm;have HY:Hid ((if word (p.line i) 0=bS/\k=1 then p.now t.1 (word (p.line i) 1) [110]else t.1)=p.now t.1 (word (p.line i) 1) [110]):=by unfold Hid;rw[jb hd]
                    have Rd:aA wc.drew S t.1:=hS;have ZZ:=Rd.eB HF.out.ok;have hvS:=Rd.dD HF.out.ok;have qx:=SE H (below_drewN hB 1) (i:=i) HF.out (word (p.line i) 1) [110] rfl (by simp) (HM1.out hd.1);have WT:Hid ((p.now t.1 (word (p.line i) 1) [110]).dS):=p.kC HF.out _ QY;obtain⟨u,X5⟩:∃u,p.now t.1 (word (p.line i) 1) [110]=u:=⟨_,rfl⟩;rw[X5]at qx WT;have HUU:Hid (_=u):=X5;have YW:df u.cells.toArray:=⟨_,WT.out.ok,rfl⟩;clear X5 hd;go_wp2_with fail
                    go_region_law (go_simp;go_at_call 88;refine qx.mono ?_;rintro e w2 ⟨rfl,bT⟩;have hhO:qg w2 O 0:=((hO.drew).below bT).eB HF.out.ok)
                    all_goals go_wp2_with fail
                    all_goals
                     go_meet
                     case rel=>exact⟨by rw[HY.out,HUU.out];exact(hO.drew.below bT).store HF.out.ok WT.out.ok,(hR.drew.below bT).other (Nat.ne_of_lt Yx.out.1) 0 _,(hS.drew.below bT).other Yx.out.2 0 _,ay ((below_drewN hB 1).trans (bT.mono hB.size)) (Nat.le_of_lt Yx.out.1) 0 _⟩
                  case rest=>
                   clear hO hR hS hB sb GG Rq Hb;obtain⟨hO,hR,hS,hB⟩:=hcut;have sb:=Co.below rfl hB;have GG:=sb.words 0 (by have:=Cc.out;omega);have Rq:=sb.words 1 (by have:=Cc.out;omega);go_upto_region 29 with fail
                   go_cut [154] (fun v wc'=>∃b:Bool,v=.bool b/\Hid (b=decide (word (p.line i) 0=bS/\k=2))/\wc'=wc)
                   case first=>
                    by_cases hmt:word (p.line i) 0=bS
                    ·have P9:(word (p.line i) 0==[109,97,116,99,104])=true:=by rw[hmt];rfl
                     by_cases B7:k=2
                     ·have XI:((k:Int)==2)=true:=by simp;omega
                      have HD:Hid (decide (word (p.line i) 0=bS/\k=2)=true):=by unfold Hid;simp[hmt,B7]
                      clear hmt;go_wp2
                      go_meet
                      case rel=>exact⟨_,rfl,HD.out.symm,rfl⟩
                     ·have XI:((k:Int)==2)=false:=by simp;omega
                      have HD:Hid (decide (word (p.line i) 0=bS/\k=2)=false):=by unfold Hid;simp[B7]
                      clear hmt;go_wp2
                      go_meet
                      case rel=>exact⟨_,rfl,HD.out.symm,rfl⟩
                    ·have P9:(word (p.line i) 0==[109,97,116,99,104])=false:=by simpa [bS]using hmt
                     have HD:Hid (decide (word (p.line i) 0=bS/\k=2)=false):=by unfold Hid;simp[hmt]
                     clear hmt;go_wp2
                     go_meet
                     case rel=>exact⟨_,rfl,HD.out.symm,rfl⟩
                   case rest=>
                    obtain⟨b,rfl,Hb,rfl⟩:=hcut;go_upto_if 154 with fail
                    go_cut [] (fun wc'=>aA wc' O (p.eE (p.line i) t.1 k)/\aS wc' w.heap.size L2/\aA wc' S t.1/\Below w.heap.size w wc')
                    case first=>
                     cases b
                     ·have hd:¬(word (p.line i) 0=bS/\k=2):=of_decide_eq_false Hb.out.symm;have HY:Hid (p.eE (p.line i) t.1 k=(if word (p.line i) 0=bS/\k=1 then p.now t.1 (word (p.line i) 1) [110]else t.1)):=by unfold Hid;unfold RP.eE;rw[ja hd]
                      clear hd;go_wp2
                      go_meet
                      case rel=>exact⟨by rw[HY.out];exact hO,hR,hS,hB⟩
                     ·have hd:word (p.line i) 0=bS/\k=2:=of_decide_eq_true Hb.out.symm;have HY:Hid (p.eE (p.line i) t.1 k=p.now t.1 (word (p.line i) 1) [119]):=by unfold Hid;unfold RP.eE;rw[jb hd]
                      rw[ja (fun h=>by omega)]at hO;have Rd:aA wc.drew S t.1:=hS;have ZZ:=Rd.eB HF.out.ok;have hvS:=Rd.dD HF.out.ok;have qx:=SE H (below_drewN hB 1) (i:=i) HF.out (word (p.line i) 1) [119] rfl (by simp) (HM1.out hd.1);have WT:Hid ((p.now t.1 (word (p.line i) 1) [119]).dS):=p.kC HF.out _ MJ;obtain⟨u,X5⟩:∃u,p.now t.1 (word (p.line i) 1) [119]=u:=⟨_,rfl⟩;rw[X5]at qx WT;have HUU:Hid (_=u):=X5;have YW:df u.cells.toArray:=⟨_,WT.out.ok,rfl⟩;clear X5 hd;go_wp2_with fail
                      go_region_law (go_simp;go_at_call 88;refine qx.mono ?_;rintro e w2 ⟨rfl,bT⟩;have hhO:qg w2 O 0:=((hO.drew).below bT).eB HF.out.ok)
                      all_goals go_wp2_with fail
                      all_goals
                       go_meet
                       case rel=>exact⟨by rw[HY.out,HUU.out];exact(hO.drew.below bT).store HF.out.ok WT.out.ok,(hR.drew.below bT).other (Nat.ne_of_lt Yx.out.1) 0 _,(hS.drew.below bT).other Yx.out.2 0 _,ay ((below_drewN hB 1).trans (bT.mono hB.size)) (Nat.le_of_lt Yx.out.1) 0 _⟩
                    case rest=>
                     clear hO hR hS hB sb GG Rq Hb;obtain⟨hO,hR,hS,hB⟩:=hcut;have Zb:Hid ((p.eE (p.line i) t.1 k).dS):=p.lM HF.out _ _;obtain⟨o,hoo⟩:∃o,p.eE (p.line i) t.1 k=o:=⟨_,rfl⟩;rw[hoo]at hO Zb Yw;rw[TV]at Yw;have sb:=Co.below rfl hB;have Xy:=sb.words (k+1) (by have:=Cc.out;omega);have HBL:=CU p a (word (p.line i) (k+1)) nb wc (H.prog.below hB) H.ok (by have:=H.ok.long i (k+1);unfold maxLen;omega) Cp Km;clear hoo TV Cp;have U1:p.blocks.getD nb 0<L2.length:=by omega
                     obtain⟨bb,B6⟩:∃bb,p.blocks.getD nb 0=bb:=⟨_,rfl⟩;rw[B6]at HBL Yw U1 qk;clear B6;have hbbI:(bb:Int)<p.lines.length:=by omega
                     as_aux_lemma=>
                      have hGb:=fU Cb.out.rows U1 Zb.out;have HGr3:Hid (iO (L,false) (kd bb o (L2,m2))):=Cb.out.trans hGb;have WN:Hid (kd bb o (L2,m2)=(L2.set bb ((lw L2 bb).add o).1,m2||((lw L2 bb).add o).2)):=rfl;have Nq:Hid (((lw L2 bb).add o).1.dS):=WS.zy (Cb.out.rows.fc bb) Zb.out;have Np:=fun W=>FN (lw L2 bb) o W (Cb.out.rows.fc bb) Zb.out
                      obtain⟨r,XV⟩:∃r,(lw L2 bb).add o=r:=⟨_,rfl⟩;simp only[XV]at Np;rw[XV]at Nq WN;clear XV hGb;have oC:df r.1.cells.toArray:=⟨_,Nq.out.ok,rfl⟩;go_upto_region 32 with(go_at_call 89;refine HBL.mono ?_;rintro e wd ⟨rfl,yV⟩;have HWD:Hid (∃nd,wd=wc.drewN nd):=yV;clear yV)
                      obtain⟨nd,yV⟩:=HWD.out;clear HWD
                      replace hO:aA wd O o:=by rw[yV];exact hO.drewN nd
                      replace hR:aS wd w.heap.size L2:=by rw[yV];exact hR.drewN nd
                      replace hS:aA wd S t.1:=by rw[yV];exact hS.drewN nd
                      replace hB:Below w.heap.size w wd:=by rw[yV];exact below_drewN hB nd
                      clear yV sb Xy;go_cut [18,19] (fun v18 v19 wc'=>∃T,v18=.pointer (some ⟨T,0,none⟩)/\v19=.bool r.2/\aA wc' T r.1/\Hid (w.heap.size<T)/\aS wc' w.heap.size L2/\aA wc' S t.1/\Below w.heap.size w wc')
                      case first=>
                       refine RefZeT.reg32 w.heap.size p.lines.length bb O r o L2 wd _ _ _ _ _ _ _ _ (by omega) hL Cb.out.rows Zb.out Nq.out hO hR Np ?_;intro x168 x169 x170 x171 x172 x173 x174 x175 x176 T w' hT' hGT hR' Eo;go_wp2_with fail
                       go_meet
                       case rel=>exact⟨T,rfl,rfl,hT',hGT,hR',hS.below Eo,hB.trans (Eo.mono hB.size)⟩
                      case rest=>
                       clear Np hR hB hS hO;obtain⟨T,rfl,rfl,hT,HTG,hR,hS,hB⟩:=hcut;have hhT:=hT.eB Nq.out.ok;have hvT:=hT.dD Nq.out.ok;have hhR:=hR.eB Cb.out.rows bb U1;cases m2
                       all_goals
                        go_wp2
                        go_roundg (f.length-(k+1))
                        case rel=>exact⟨k+1,L2.set bb r.1,_,by omega,by omega,by go_num,rfl,hR.store bb U1 Nq.out.ok,hS.other (Nat.ne_of_gt HSG.out) _ _,ay hB (jC _) _ _,by rw[List.length_set];exact hL,by have:=HGr3.out;rw[WN.out]at this;exact this,by unfold Hid;rw[WQ.out,Yw.out,WN.out];rfl⟩
                        case measure=>omega
               ·have We:((f[k].toNat:Int)==78)=false:=by
                 rw[<-hgD];have:¬(f.getD k 0).toNat=78:=fun h=>hN ((kV (f.getD k 0) 78 (by omega)).mpr h)
                 rw[jZ];omega
                have Yw:Hid (p.eY (p.line i) t.1 f (f.length-k) k (L2,m2)=p.eY (p.line i) t.1 f (f.length-(k+1)) (k+1) (L2,m2)):=by unfold Hid;rw[HSk.out,ja hN]
                clear HSk hN hgD
                as_aux_lemma=>
                 go_wp2
                 go_roundg (f.length-(k+1))
                 case rel=>exact⟨k+1,L2,m2,by omega,by omega,by go_num,rfl,hR,hS,hB,hL,Cb,by unfold Hid;rw[WQ.out,Yw.out]⟩
                 case measure=>omega
              ·as_aux_lemma=>
                have hkI:¬(k:Int)<f.length:=by omega
                have HX:Hid (p.through i (L',m)=(L2,m2)):=by unfold Hid;rw[WQ.out,show f.length-k=0 by omega];rfl
                go_wp2
                go_roundg (p.lines.length-(i+1))
                case rel=>exact⟨i+1,L2,m2,by omega,by omega,by go_num,rfl,hR,hB,hL,Cb,by unfold Hid;rw[HPs.out,HS.out,HX.out]⟩
                case measure=>omega
        ·as_aux_lemma=>
          have mY:=(zL.below rfl hB).all;have UZ:¬(i:Int)<p.lines.length:=by omega
          have HX:Hid (p.pass L=(L',m)):=by unfold Hid;rw[HPs.out,show p.lines.length-i=0 by omega];rfl
          go_wp2
          go_roundg (if m then 97*p.lines.length-total L'+1 else 0)
          case rel=>exact⟨L',m,rfl,jC _,hR,hB,hL,Jv.out.rows,⟨fun hm=>by have:=RP.Reach.pass L (HQ.out.1 (by first|trivial|rfl)) (by rw[HX.out];exact hm);rwa [HX.out]at this,fun hm=>⟨L,HQ.out.1 (by first|trivial|rfl),by rw[HX.out,hm]⟩⟩⟩
          case measure=>
           have h1:=HG.out;have h3:=Tz Jv.out.rows;have h4:=Jv.out.told;go_light
           simp only[if_true]at h1 h3 h4;rw[hL]at h3;cases m
           ·simp;omega
           ·have:=h4 rfl;simp at this⊢;omega
end RefZe
namespace RefZf
open Go.RowKit Sq RefM RefZe Aux
theorem y8 {text:B}{raw:Bool}{c k:Nat}(h:aJ text raw=(none,c,k)):1<=c/\c<=4:=by
 unfold aJ at h;split at h
 ·simp only[Prod.mk.injEq]at h;omega
 ·split at h
  ·simp only[Prod.mk.injEq]at h;omega
  ·split at h
   ·simp only[Prod.mk.injEq]at h;omega
   ·split at h
    ·simp only[Prod.mk.injEq]at h;omega
    ·split at h
     ·simp only[Prod.mk.injEq]at h;omega
     ·cases h
def qw (text:B)(w:World)(e:Ending)(w':World):Prop:=
 Below w.heap.size w w'/\((∃c k:Nat,aJ text false=(none,c,k)/\e=.returned (.tuple #[.pointer none,.int .i64 (c:Int),.int .i64 (k:Int)]))\/
  ∃p L,aJ text false=(some p,0,0)/\p.iS L/\((0<=p.cV L p.lines.length 0/\e=.returned (.tuple #[.pointer none,.int .i64 5,.int .i64 (p.cV L p.lines.length 0)]))\/
   (p.cV L p.lines.length 0<0/\∃a,e=.returned (.tuple #[.pointer (some ⟨a,0,none⟩),.int .i64 0,.int .i64 0])/\bd w' a p/\p.Ok/\w.heap.size<=a)))
set_option maxRecDepth 20000 in
set_option maxHeartbeats 1000000 in
theorem FX (text:B)(w:World)(h:text.length<=1099511627776):Calls Tryz.prog 34 #[.string (bs text)] w (qw text w):=by
 have Uc:=S4 text false w h;go_enter Tryz.func34,Tryz.ntmps34
 cases hr:aJ text false with
 |mk op ck=>
  obtain⟨c,k⟩:=ck;cases op with
  |none=>
   obtain⟨ko,mZ⟩:=y8 hr;have FB:((c:Int)==0)=false:=by simp;omega
   have HR:Hid (_=_):=hr;go_wp2_with (go_at_call 46;refine Uc.mono ?_;rintro e w1 ⟨av,v,rfl,hv⟩;rw[HR.out]at hv;obtain⟨-,rfl⟩:True/\v=.pointer none:=(by rcases hv with⟨-,hv⟩|⟨p,a,hp,-⟩;exact⟨trivial,hv⟩;cases hp);have tP:Hid (Below w.heap.size w w1):=av;simp only[HR.out])
   go_ret3
   exact⟨tP.out,.inl ⟨c,k,HR.out,rfl⟩⟩
  |some p=>
   obtain⟨hg,rfl,rfl,-⟩:=jy hr;have HR:Hid (_=_):=hr;have HG:Hid (_):=hg;clear hr hg;go_upto_region 4 with(go_at_call 46;refine Uc.mono ?_;rintro e w1 ⟨av,v,rfl,hv⟩;rw[HR.out]at hv;obtain⟨a,rfl,cd,hinv⟩:∃a,v=.pointer (some ⟨a,0,none⟩)/\Hid p.Ok/\Hid (∃vl vt vb us,j8 w.heap.size a w1 p vl vt vb us):=(by rcases hv with⟨hv,-⟩|⟨p',a,hp,hv,ho,hi⟩;(cases hv);(cases hp;exact⟨a,hv,ho,hi⟩));have tP:Hid (Below w.heap.size w w1):=av;clear hv av;simp only[HR.out])
   have hA:Hid (bd w1 a p/\w.heap.size<=a):=by obtain⟨vl,vt,vb,us,hi⟩:=hinv.out;exact⟨hi.yb cd.out.words,hi.base⟩
   have HU:=VT text p a w1 ⟨hA.out.1,cd.out,HG.out⟩;go_cut [8] (fun v8 wc=>(∃L,Hid (p.iS L)/\v8=.int .i64 (p.cV L p.lines.length 0))/\Hid (Below w1.heap.size w1 wc))
   case first=>
    go_wp2_with (go_at_call 52;refine HU.mono ?_;rintro e w2 ⟨⟨L,hL,rfl⟩,bT⟩;have HL:Hid (_):=hL;have HB:Hid (_):=bT;clear hL bT)
    go_meet
    case rel=>exact⟨⟨L,HL,rfl⟩,HB⟩
   case rest=>
    obtain⟨⟨L,HL,rfl⟩,HB⟩:=hcut;clear HU Uc;obtain⟨fa,kY⟩:∃fa,p.cV L p.lines.length 0=fa:=⟨_,rfl⟩;rw[kY];have HFA:Hid (_=_):=kY;clear kY;have Y5:Hid (Below w.heap.size w wc):=tP.out.trans (HB.out.mono tP.out.size);by_cases h0:0<=fa
    ·go_wp2
     go_ret3
     exact⟨Y5.out,.inr ⟨p,L,HR.out,HL.out,.inl ⟨by rw[HFA.out];exact h0,by rw[HFA.out];rfl⟩⟩⟩
    ·go_wp2
     go_ret3
     exact⟨Y5.out,.inr ⟨p,L,HR.out,HL.out,.inr ⟨by rw[HFA.out];omega,a,rfl,hA.out.1.below HB.out,cd.out,hA.out.2⟩⟩⟩
end RefZf
end Go.Proofs.YtmlgajhhnojdjaaGreatDoor

import Derived.Test.YtmlgajhhnojdjaaGreatDoorVBI
import Derived.Test.YtmlgajhhnojdjaaGreatDoorVBE
set_option maxHeartbeats 8000000
namespace Go.Proofs.YtmlgajhhnojdjaaGreatDoor
namespace El
open Go Go.RowKit Sq Aux Go.Proofs.YtmlgajhhnojdjaaGreatDoor.Own PrjF PrjG PrjJ PrjK PrjL PrjM PrjP PrjQ PrjS PrjT FlwA FlwB FlwE FlwF FlwG FlwJ FlwM
attribute [local go_sem ↓] bY bJ
theorem JG:(#[.int .u8 0,.int .u8 0,.int .u8 0,.int .u8 0,.int .u8 0,.int .u8 0,.int .u8 0,.int .u8 0,.int .u8 0,.int .u8 0,.int .u8 0,.int .u8 0,.int .u8 0,.int .u8 0,.int .u8 0,.int .u8 0,.int .u8 0,.int .u8 0,.int .u8 0,.int .u8 0,.int .u8 0,.int .u8 0,.int .u8 0,.int .u8 0]:Array Value)=(ag ak).toArray:=rfl
section
variable {z x a:Nat} {w0 w:World} {ve:Value} {un:List Bool} {m:Mk} {O:Nat->Prop}
set_option maxRecDepth 20000 in
theorem yL (HA:GS){K:Nat}(h:bG z w0 x a ve w un m O)(hm:m.Small K)(hK:K<=80000)(s:List Nat)(hs:dn s){q:QP}{v u:Value}(hq:PQ w0 a q v u)(mW:0<q.locals.length)(oE:q.locals.length<=12){nb:Nat}{l:ab}{ap an:Option Addr}{cp cn:Nat}(hL:aE z w0 l (.slice ap l.places.length cp) (.slice an l.next.length cn))(hk:iB q.locals.length nb l):
  Calls Tryz.prog 132 #[.pointer (some ⟨x,0,none⟩),.agg (ag s).toArray,.agg #[.int .i64 (l.num:Nat),.int .i64 (l.op:Nat),.slice ap l.places.length cp,.int .i64 l.number,.int .i64 l.flag,.slice an l.next.length cn]] w fun e w'=>e=.returned (.tuple #[])/\∃O',bG z w0 x a ve w' un (m.items (bo q un s l)) O'/\Fr O w O' w':=by
 have hold:∀{W:World} {m':Mk} {O':Nat->Prop},bG z w0 x a ve W un m' O'->Below w0.heap.size w0 W:=fun hi=>by obtain⟨_,_,_,hi⟩:=hi;exact hi.bz
 have rJ:=(hold h).size;have HQ:Hid (∀{W:World} {m':Mk} {O':Nat->Prop},bG z w0 x a ve W un m' O'->PQ W a q v u/\aE z W l (.slice ap l.places.length cp) (.slice an l.next.length cn)):=fun hi=>⟨hq.below (hold hi),hL.below (hold hi)⟩
 obtain⟨V1,vo⟩:∃V1,w.alloc (.cells (ag s).toArray 209)=V1:=⟨_,rfl⟩;have oY:V1.heap.size=w.heap.size+1:=by rw[<-vo];simp
 obtain⟨cs,sW⟩:∃cs,(#[.int .i64 (l.num:Nat),.int .i64 (l.op:Nat),.slice ap l.places.length cp,.int .i64 l.number,.int .i64 l.flag,.slice an l.next.length cn]:Array Value)=cs:=⟨_,rfl⟩;obtain⟨V,hV⟩:∃V,V1.alloc (.cells cs 115)=V:=⟨_,rfl⟩;have oZ:V.heap.size=w.heap.size+2:=by rw[<-hV];simp[oY]
 have dk:Below w.heap.size w V1:=by rw[<-vo];exact(Below.refl _ _).alloc (jC _) _
 have dp:Below V1.heap.size V1 V:=by rw[<-hV];exact(Below.refl _ _).alloc (jC _) _
 have mN:aj V w.heap.size s:=by
  have:aj V1 w.heap.size s:=by rw[<-vo];exact aj.new w hs.len
  exact this.below dp this.lt
 have Hx:V.heap[w.heap.size+1]?=some (.cells cs 115 (0,0)):=by rw[<-hV,<-oY];exact jD
 have zZ:Below w.heap.size w V:=dk.trans (dp.mono (by omega));have HC:Hid (∀{W:World},W.heap[w.heap.size+1]?=some (.cells cs 115 (0,0))->W.cell? ⟨w.heap.size+1,0,none⟩=some (.int .i64 (l.num:Nat))/\W.cell? ⟨w.heap.size+1,1,none⟩=some (.int .i64 (l.op:Nat))/\W.cell? ⟨w.heap.size+1,2,none⟩=some (.slice ap l.places.length cp)/\W.cell? ⟨w.heap.size+1,3,none⟩=some (.int .i64 l.number)/\W.cell? ⟨w.heap.size+1,4,none⟩=some (.int .i64 l.flag)/\W.cell? ⟨w.heap.size+1,5,none⟩=some (.slice an l.next.length cn)):=fun hr=>by
  subst sW;exact⟨by rw[cell_of_heap hr];rfl,by rw[cell_of_heap hr];rfl,by rw[cell_of_heap hr];rfl,by rw[cell_of_heap hr];rfl,by rw[cell_of_heap hr];rfl,by rw[cell_of_heap hr];rfl⟩
 have M8:Hid (∀{W:World} {b6 b7:Nat},Below V.heap.size V W->aj W b6 s->aj W b7 s->b6≠b7->w.heap.size+2<=b6->w.heap.size+2<=b7->bG z w0 x a ve W un m O/\iZ O w cs s s s b6 b7 O W):=fun hW h6 h7 c8 g6 g7=>by
  refine⟨h.below (zZ.trans (hW.mono zZ.size)),mN.below hW mN.lt,(hW.block _ (lt_of_heap Hx)).trans Hx,h6,h7,c8,g6,g7,fun k hk=>h.fresh (by rcases hk with rfl|rfl|rfl|rfl<;>omega),Fr.of (zZ.trans (hW.mono zZ.size))⟩
 have mP:=fu hs.len;obtain⟨D1,D2,D1s,E2,D2a,D2b,F1,F2,F3,⟨e1,e2,e3,e4,e5,e6,e7,e8,e9⟩,⟨g1,g2⟩,⟨t0,t1,t2,t3,t4,t5,t6⟩,⟨o0,o1,o2,o3,o4,o5,o6⟩,⟨r1,r2,r3,r4,r5,r6⟩,J3⟩:=Gz (V:=V) (D0:=V.drew) JG mN (w.heap.size+2) oZ ⟨rfl,rfl,rfl,jC _,fun _ _=>rfl⟩;clear mN Hx dk dp zZ;go_enter Tryz.func132,Tryz.ntmps132
 go_upto_region 1 with fail
 try rw[vo]
 try rw[hV]
 clear vo hV sW;go_cut [6,7] (fun v6 v7 wc=>∃b6 b7,v6=.pointer (some ⟨b6,0,none⟩)/\v7=.pointer (some ⟨b7,0,none⟩)/\bG z w0 x a ve wc un m O/\iZ O w cs s s s b6 b7 O wc)
 case first=>
  go_region
  all_goals go_wp2_with fail
  all_goals
   go_meet
   case rel=>
    obtain⟨⟨f1,f2,f3⟩,⟨f4,f5,f6⟩,f7,f8,f9⟩:=J3.out;first
     |exact⟨_,_,rfl,rfl,M8.out (oZ▸f1) f2 f3 (by omega) (by omega) (by omega)⟩
     |exact⟨_,_,rfl,rfl,M8.out (oZ▸f1) f3 f2 (by omega) (by omega) (by omega)⟩
     |exact⟨_,_,rfl,rfl,M8.out (oZ▸f4) f5 f6 (by omega) (by omega) (by omega)⟩
     |exact⟨_,_,rfl,rfl,M8.out (oZ▸f4) f6 f5 (by omega) (by omega) (by omega)⟩
     |exact⟨_,_,rfl,rfl,M8.out (oZ▸f7) f8 f9 (by omega) (by omega) (by omega)⟩
     |exact⟨_,_,rfl,rfl,M8.out (oZ▸f7) f9 f8 (by omega) (by omega) (by omega)⟩
 case rest=>
  obtain⟨b6,b7,rfl,rfl,hM,hA⟩:=hcut;clear e1 e2 e3 e4 e5 e6 e7 e8 e9 g1 g2 t0 t1 t2 t3 t4 t5 t6 o0 o1 o2 o3 o4 o5 o6 r1 r2 r3 r4 r5 r6 J3 mP oY oZ M8;have Zg:=hA.No;have Zh:=hA.Np;have YD:=ml q l hs;have Wk:=fy q l hs;go_upto_region 2 with fail
  go_cut [] (fun wd=>bG z w0 x a ve wd un m O/\iZ O w cs s (aR q l s) s b6 b7 O wd)
  case first=>
   obtain⟨l0,l1,l2,l3,l4,l5⟩:=HC.out hA.ln;obtain⟨x0,-⟩:=hM.zero;have jl:Below wc.heap.size wc wc.drew:=⟨rfl,rfl,rfl,jC _,fun _ _=>rfl⟩;have rz:=hM.below jl;have DN:=hA.below jl;obtain⟨Pt,EY⟩:=HQ.out rz;have KT:=qC q l nb z a b6 v u ap an cp cn s wc.drew Pt oE hk EY DN.a6;go_region_with (go_at_call 125;refine KT.mono ?_;rintro e w1 ⟨rfl,gC,jj⟩)
   all_goals go_wp2_with fail
   all_goals
    go_meet
    case rel=>exact⟨rz.eo DN.a6 (DN.zE _ (.inr (.inr (.inl rfl)))) (by omega) jj,DN.RW jj gC⟩
  case rest=>
   obtain⟨DQ,DM⟩:=hcut;clear hM hA;go_upto_region 3 with fail
   go_cut [] (fun wd=>bG z w0 x a ve wd un m O/\iZ O w cs s (aR q l s) (au q l s) b6 b7 O wd)
   case first=>
    obtain⟨l0,l1,l2,l3,l4,l5⟩:=HC.out DM.ln;obtain⟨x0,-⟩:=DQ.zero;have jl:Below wc.heap.size wc wc.drew:=⟨rfl,rfl,rfl,jC _,fun _ _=>rfl⟩;have rz:=DQ.below jl;have DN:=DM.below jl;obtain⟨Pt,EY⟩:=HQ.out rz;have KT:=mc q l nb z a b7 v u ap an cp cn s wc.drew Pt oE hk EY DN.a7 hs.lt;go_region_with (go_at_call 128;refine KT.mono ?_;rintro e w1 ⟨rfl,gC,jj⟩)
    all_goals go_wp2_with fail
    all_goals
     go_meet
     case rel=>exact⟨rz.eo DN.a7 (DN.zE _ (.inr (.inr (.inr rfl)))) (by omega) jj,DN.RX jj gC⟩
   case rest=>
    obtain⟨Vt,sQ⟩:=hcut;clear DQ DM;go_upto_region 4 with fail
    go_cut [] (fun wd=>∃O4,bG z w0 x a ve wd un (m.items (aN (aR q l s) (bf q l))) O4/\iZ O w cs s (aR q l s) (au q l s) b6 b7 O4 wd)
    case first=>
     obtain⟨l0,l1,l2,l3,l4,l5⟩:=HC.out sQ.ln;have jl:Below wc.heap.size wc wc.drew:=⟨rfl,rfl,rfl,jC _,fun _ _=>rfl⟩;have rz:=Vt.below jl;have DN:=sQ.below jl;obtain⟨x0,x1⟩:=rz.zero;obtain⟨Pt,EY⟩:=HQ.out rz;have KT:=xv HA x0 x1 Pt mW oE EY hk;have t0:=aj.has DN.a6;have o0:=aj.of DN.a6;have HR:Hid (∀{W:World} {ad:Option Addr} {c:Nat},ay wc.drew.heap.size W (.slice ad (bf q l).length c) (bf q l)->Below wc.drew.heap.size wc.drew W->(fa W b6 0/\kg W b6 0=(ag (aR q l s)).toArray)/\Calls Tryz.prog 179 #[.pointer (some ⟨x,0,none⟩),.agg (ag (aR q l s)).toArray,.slice ad (bf q l).length c] W fun e w'=>e=.returned (.tuple #[])/\∃O4,bG z w0 x a ve w' un (m.items (aN (aR q l s) (bf q l))) O4/\iZ O w cs s (aR q l s) (au q l s) b6 b7 O4 w'):=fun{W ad c} hP hW=>by
      have XB:=rz.below hW;have OM:=DN.below hW;refine⟨⟨aj.has OM.a6,aj.of OM.a6⟩,?_⟩;refine(sI XB hm (by omega) (aR q l s) YD hP (fun g hg=>rz.fresh (hP.lt g hg).1) (jz hk oE).1 (jz hk oE).2).mono ?_;rintro e w' ⟨rfl,O4,h4,F4⟩;exact⟨rfl,O4,h4,OM.on F4⟩
     clear Pt EY x0 x1 rz jl DN;go_region_law (first
      |(go_simp;go_at_call 126;refine KT.mono ?_;rintro e w1 ⟨ad,c,rfl,hP,aB⟩;obtain⟨⟨t1,o1⟩,KR⟩:=HR.out hP aB)
      |(go_simp;go_at_call 179;refine KR.mono ?_;rintro e w2 ⟨rfl,O4,h4,A4⟩))
     all_goals go_wp2_with fail
     all_goals
      go_meet
      case rel=>exact⟨O4,h4,A4⟩
    case rest=>
     obtain⟨O4,Ks,Tk⟩:=hcut;clear Vt sQ;go_upto_region 5 with fail
     have Re:(m.items (aN (aR q l s) (bf q l))).Small (K+200):=(hm.items _ (fJ _ _).1).mono (by have:=(fJ (aR q l s) (bf q l)).2;have:=(jz hk oE).2;omega);have HI:Hid (m.items (bo q un s l)=(((m.items (aN (aR q l s) (bf q l))).items (if l.op=15 then []else [.line l])).items (aY un s (au q l s) 24)).items (if l.op=12 then bw un (au q l s) (aw l 0)else [])):=by unfold Hid bo;rw[fM,fM,fM]
     have HS:Hid (∀{W:World} {m5:Mk} {O5:Nat->Prop},bG z w0 x a ve W un m5 O5->m5.Small (K+202)->iZ O w cs s (aR q l s) (au q l s) b6 b7 O5 W->(fa W w.heap.size 0/\kg W w.heap.size 0=(ag s).toArray/\fa W b7 0/\kg W b7 0=(ag (au q l s)).toArray)/\Calls Tryz.prog 180 #[.pointer (some ⟨x,0,none⟩),.agg (ag s).toArray,.agg (ag (au q l s)).toArray] W fun e w'=>e=.returned (.tuple #[])/\∃O6,bG z w0 x a ve w' un (m5.items (aY un s (au q l s) 24)) O6/\(m5.items (aY un s (au q l s) 24)).Small (K+250)/\iZ O w cs s (aR q l s) (au q l s) b6 b7 O6 w'):=fun{W m5 O5} h5 h5s hA5=>by
      refine⟨⟨aj.has hA5.st,aj.of hA5.st,aj.has hA5.a7,aj.of hA5.a7⟩,?_⟩;refine(yW h5 h5s (by omega) s (au q l s) hs Wk).mono ?_;rintro e w' ⟨rfl,O6,h6,F6⟩;exact⟨rfl,O6,h6,(h5s.items _ (fI un s (au q l s) 24).1).mono (by have:=(fI un s (au q l s) 24).2;omega),hA5.on F6⟩
     have HP:Hid (Calls Tryz.prog 130 #[.pointer (some ⟨x,0,none⟩),.slice (some ⟨wc.heap.size,0,none⟩) 1 1] (wc.alloc (.cells #[.int .i64 (l.num:Nat),.int .i64 (l.op:Nat),.slice ap l.places.length cp,.int .i64 l.number,.int .i64 l.flag,.slice an l.next.length cn] 115)) fun e w'=>e=.returned (.tuple #[])/\∃O5,bG z w0 x a ve w' un ((m.items (aN (aR q l s) (bf q l))).put [l]) O5/\iZ O w cs s (aR q l s) (au q l s) b6 b7 O5 w'):=by
      have Ch:Below wc.heap.size wc (wc.alloc (.cells #[.int .i64 (l.num:Nat),.int .i64 (l.op:Nat),.slice ap l.places.length cp,.int .i64 l.number,.int .i64 l.flag,.slice an l.next.length cn] 115)):=(Below.refl _ _).alloc (jC _) _;have OP:=Ks.below Ch;refine(fz (c:=1) (ls:=[l]) OP Re.at_ (ie (g:=wc.heap.size) (HQ.out OP).2 jD) (by simp) (by have:=Re.lines (m.items (aN (aR q l s) (bf q l))).at_;rw[List.length_singleton];omega)).mono ?_;rintro e w' ⟨rfl,O5,h5,F5⟩;exact⟨rfl,O5,h5,(Tk.below Ch).on F5⟩
     have V3:=Re.line l;have SR:(m.items (aN (aR q l s) (bf q l))).put [l]=(m.items (aN (aR q l s) (bf q l))).items [.line l]:=rfl;generalize m.items (aN (aR q l s) (bf q l))=mf at*;obtain⟨l0,l1,l2,l3,l4,l5⟩:=HC.out Tk.ln;by_cases lz:l.op=15
     ·have t15:((l.op:Int)==15)=true:=by rw[lz];rfl
      have t12:((l.op:Int)==12)=false:=by rw[lz];rfl
      have hI:=HI.out;rw[jb lz,ja (by omega)]at hI;obtain⟨⟨s1,s2,s3,s4⟩,KS⟩:=HS.out Ks (Re.mono (by omega)) Tk;clear HP HI lz;go_wp2_with (go_at_call 180;refine KS.mono ?_;rintro e w6 ⟨rfl,O6,h6,-,A6⟩;obtain⟨-,l1,-,-,-,-⟩:=HC.out A6.ln)
      go_end0
      exact⟨rfl,O6,by rw[hI];exact h6,A6.fr⟩
     ·have t15:((l.op:Int)==15)=false:=by rw[jZ];omega
      have hI:=HI.out;rw[ja lz,<-SR]at hI;have KP:=HP.out;by_cases cV:l.op=12
      ·rw[jb cV]at hI;have t12:((l.op:Int)==12)=true:=by rw[cV];rfl
       have HN:Hid (l.places.length=2):=by unfold Hid;rw[hk.cP,cV];rfl
       have aH:Hid (l.op=12):=cV;clear cV lz;go_upto_region 9 with(first
        |(go_at_call 130;refine KP.mono ?_;rintro e w5 ⟨rfl,O5,h5,A5⟩;obtain⟨⟨s1,s2,s3,s4⟩,KS⟩:=HS.out h5 (V3.mono (by omega)) A5)
        |(go_at_call 180;refine KS.mono ?_;rintro e w6 ⟨rfl,O6,h6,Vi,A6⟩;obtain⟨-,l1,l2,-,-,-⟩:=HC.out A6.ln))
       clear l0 l1 l3 l4 l5 KP KS s1 s2 s3 s4;obtain⟨-,-,l2,-,-,-⟩:=HC.out A6.ln;obtain⟨gp,Cl,kC,rH,c1,c2⟩:=aS (HQ.out h6).2 HN.out 0 (by omega);subst Cl;have lf:(aw l 0).1<12:=by
        have:=(hk.places (aw l 0) (by unfold aw;rw[jA,jB (by rw[HN.out];omega)];exact jL _)).1;omega
       have ep:l.places.getD 0 (0,0)=aw l 0:=rfl;rw[ep]at c1 c2;have Ym:0<l.places.length:=by rw[HN.out];decide
       have jl:Below w6.heap.size w6 w6.drew:=⟨rfl,rfl,rfl,jC _,fun _ _=>rfl⟩;have t0:=aj.has (A6.below jl).a7;have o0:=aj.of (A6.below jl).a7;have KM:=yX (h6.below jl) Vi (by omega) (au q l s) Wk (aw l 0) lf;clear HQ hL HC;generalize aw l 0=p at*;generalize l.places.length=np at*;go_region_law (go_simp;go_at_call 181;refine KM.mono ?_;rintro e w7 ⟨rfl,O7,h7,F7⟩)
       all_goals go_wp2_with fail
       all_goals
        go_end0
        exact⟨rfl,O7,by rw[hI];exact h7,((A6.below jl).on F7).fr⟩
      ·rw[ja cV]at hI;have t12:((l.op:Int)==12)=false:=by rw[jZ];omega
       go_wp2_with (first
        |(go_at_call 130;refine KP.mono ?_;rintro e w5 ⟨rfl,O5,h5,A5⟩;obtain⟨⟨s1,s2,s3,s4⟩,KS⟩:=HS.out h5 (V3.mono (by omega)) A5)
        |(go_at_call 180;refine KS.mono ?_;rintro e w6 ⟨rfl,O6,h6,Vi,A6⟩;obtain⟨-,l1,l2,-,-,-⟩:=HC.out A6.ln))
       go_end0
       exact⟨rfl,O6,by rw[hI];exact h6,A6.fr⟩
end
end El
namespace El
open Go Go.RowKit Sq Aux Go.Proofs.YtmlgajhhnojdjaaGreatDoor.Own PrjF PrjG PrjJ PrjK PrjL PrjM PrjO PrjP PrjQ PrjS PrjT PrjU FlwA FlwB FlwE FlwF FlwG FlwI FlwJ FlwM
attribute [local go_sem ↓] bY bJ
def eH (q:QP):List ab->List Nat->List Nat
 |[],s=>s
 |l::ls,s=>eH q ls (au q l s)
theorem ma (q:QP)(l:ab):∀(ls:List ab) (s:List Nat),eH q (ls++[l]) s=au q l (eH q ls s)
 |[],_=>rfl
 |x::ls,s=>ma q l ls (au q x s)
theorem tc (q:QP)(un:List Bool)(l:ab):∀(ls:List ab) (s:List Nat),bg q un (ls++[l]) s=bg q un ls s++bo q un (eH q ls s) l
 |[],s=>by show bo q un s l++[]=[]++bo q un s l;rw[List.append_nil,List.nil_append]
 |x::ls,s=>by
  show bo q un s x++bg q un (ls++[l]) (au q x s)=(bo q un s x++bg q un ls (au q x s))++_
  rw[tc q un l ls,List.append_assoc];rfl
theorem qv (q:QP):∀(ls:List ab) {s:List Nat},dn s->dn (eH q ls s)
 |[],_,h=>h
 |l::ls,_,h=>qv q ls (fy q l h)
theorem eY {α:Type}{ls:List α}{k:Nat}(hk:k<ls.length)(d:α):ls.take (k+1)=ls.take k++[ls.getD k d]:=by
 rw[List.take_add_one,jB hk,jA,jB hk];rfl
theorem pT {is js:List Item}{n k:Nat}(h:(∀i∈is,i.qA)/\is.length<=n)(h':(∀i∈js,i.qA)/\js.length<=k):(∀i∈is++js,i.qA)/\(is++js).length<=n+k:=
 ⟨fun i hi=>(List.mem_append.1 hi).elim (h.1 i) (h'.1 i),by rw[jV];have:=h.2;have:=h'.2;omega⟩
theorem Fs {q:QP}{nb:Nat}{l:ab}(hk:iB q.locals.length nb l)(cV:q.locals.length<=12)(un:List Bool)(s:List Nat):(∀i∈bo q un s l,i.qA)/\(bo q un s l).length<=127:=by
 have h1:(∀i∈aN (aR q l s) (bf q l),i.qA)/\(aN (aR q l s) (bf q l)).length<=100:=⟨(fJ _ _).1,jS (fJ _ _).2 (jz hk cV).2⟩;have h2:(∀i∈(if l.op=15 then []else [Item.line l]),i.qA)/\(if l.op=15 then []else [Item.line l]).length<=1:=by
  split
  ·exact⟨fun i hi=>(by cases hi),by simp⟩
  ·exact⟨fun i hi=>by rw[jI.1 hi];trivial,by simp⟩
 have h3:(∀i∈(if l.op=12 then bw un (au q l s) (aw l 0)else []),i.qA)/\(if l.op=12 then bw un (au q l s) (aw l 0)else []).length<=2:=by
  split
  ·unfold bw;split
   ·refine⟨fun i hi=> ?_,by simp⟩;simp only[List.mem_cons,List.not_mem_nil,or_false]at hi;rcases hi with rfl|rfl
    ·trivial
    ·show [dB _ 0].length<=1;simp
   ·exact⟨fun i hi=>(by cases hi),by simp⟩
  ·exact⟨fun i hi=>(by cases hi),by simp⟩
 exact pT h1 (pT h2 (pT (fI un s (au q l s) 24) h3))
theorem ku {q:QP}{nb:Nat}(cV:q.locals.length<=12)(un:List Bool):∀(ls:List ab) (s:List Nat),(∀l∈ls,iB q.locals.length nb l)->(∀i∈bg q un ls s,i.qA)/\(bg q un ls s).length<=127*ls.length
 |[],_,_=>⟨fun i hi=>(by cases hi),by simp[bg]⟩
 |l::ls,s,h=>by
  have h1:=Fs (h l (jM ..)) cV un s;have h2:=ku cV un ls (au q l s) (fun x hx=>h x (jN _ hx));have:=pT h1 h2;exact⟨this.1,by have:=this.2;rw[jY];show(bo q un s l++bg q un ls (au q l s)).length<=_;omega⟩
structure Src (z a:Nat)(w0:World)(q:QP)(vl vb:Value)(us:List Value)(vss:List (List (Value×Value)))(E:List (List Nat)):Prop where
 prog:fe z a w0 q vl vb us vss
 len:E.length=q.blocks.length
 ok:vZ q.blocks.length q
 some:0<q.locals.length
 jt:q.locals.length<=12
 many:q.blocks.length<=4000
 long:∀j,(q.blocks.getD j []).length<=4000
end El
namespace El
open Go Go.RowKit Sq Aux Go.Proofs.YtmlgajhhnojdjaaGreatDoor.Own PrjF PrjG PrjJ PrjK PrjL PrjM PrjO PrjP PrjQ PrjS PrjT PrjU FlwA FlwB FlwE FlwF FlwG FlwI FlwJ FlwM
attribute [local go_sem ↓] bY bJ
section
variable {z x a ap:Nat} {w0 w:World} {un:List Bool} {m:Mk} {O:Nat->Prop} {q:QP} {vl vb:Value} {us:List Value} {vss:List (List (Value×Value))} {E:List (List Nat)}
theorem Src.below (h:Src z a w0 q vl vb us vss E){W:World}(hb:Below w0.heap.size w0 W):Src z a W q vl vb us vss E:=
 ⟨h.prog.below hb,h.len,h.ok,h.some,h.jt,h.many,h.long⟩
theorem Src.pq (h:Src z a w0 q vl vb us vss E):PQ w0 a q vl vb:=⟨h.prog.aD,⟨_,h.prog.locals⟩⟩
theorem bG.from {ve:Value}(h:bG z w0 x a ve w un m O):Below w0.heap.size w0 w:=by obtain⟨_,_,_,h⟩:=h;exact h.bz
theorem Lv {W:World}{g n:Nat}(hz:z<=g)(hb:W.heap[g]?=some (.cells #[.int .i64 (n:Nat)] 3 (0,0))):W.ownsRow z 3 1 (.slice (some ⟨g,0,none⟩) 1 1) 1 (df [n]):=
 ⟨rfl,.inr ⟨g,1,_,rfl,hz,hb,jC _,by unfold maxLen;omega,rfl,rfl⟩⟩
set_option maxRecDepth 20000 in
theorem vR {K:Nat}(S:Src z a w0 q vl vb us vss E)(h:bG z w0 x a (.slice (some ⟨ap,0,none⟩) q.blocks.length q.blocks.length) w un m O)(hR:cL w ap E)(hRO:¬O ap)(hm:m.Small K)(b:Nat)(hb:b<q.blocks.length)(Le:b<m.blocks.length)(hK:K+254*(q.blocks.getD b []).length<=70000):
  Calls Tryz.prog 81 #[.pointer (some ⟨x,0,none⟩),.int .i64 (b:Nat)] w fun e w'=>e=.returned (.tuple #[])/\∃O',bG z w0 x a (.slice (some ⟨ap,0,none⟩) q.blocks.length q.blocks.length) w' un (iS q E un b m) O'/\Fr O w O' w':=by
 have rJ:=h.from.size;have Wx:z<=w0.heap.size:=by obtain⟨_,_,_,h⟩:=h;exact h.Em
 have KV:b<E.length:=by rw[S.len];exact hb
 have So:(b:Int)<(q.blocks.length:Nat):=by omega
 have hE:=hR.ok KV;obtain⟨c27,f27⟩:w.cell? ⟨x,27,none⟩=some (.int .i64 (m.at_:Nat))/\w.frozen? ⟨x,27,none⟩=false:=by obtain⟨_,_,_,h⟩:=h;exact⟨h.facts.2.2.2.1,h.facts.2.2.2.2.2⟩
 obtain⟨W1,k9⟩:∃W1,w.setCell ⟨x,27,none⟩ (.int .i64 (b:Nat))=W1:=⟨_,rfl⟩;obtain⟨h1,F1⟩:=h.setAt b;rw[k9]at h1 F1;have mZ:W1.heap.size=w.heap.size:=by rw[<-k9];exact World.size_setCell ..
 have BI:=hR.heap (F1.block ap hR.lt hRO);have has:=BI.has b KV;have Lh:=BI.of b KV;obtain⟨x1,x2⟩:W1.cell? ⟨x,0,none⟩=some (.pointer (some ⟨a,0,none⟩))/\W1.cell? ⟨x,1,none⟩=some (.slice (some ⟨ap,0,none⟩) q.blocks.length q.blocks.length):=by obtain⟨_,_,_,h⟩:=h1;exact⟨h.facts.1,h.facts.2.1⟩
 obtain⟨Z,hZ⟩:∃Z:Array Value,(#[.int .u8 0,.int .u8 0,.int .u8 0,.int .u8 0,.int .u8 0,.int .u8 0,.int .u8 0,.int .u8 0,.int .u8 0,.int .u8 0,.int .u8 0,.int .u8 0,.int .u8 0,.int .u8 0,.int .u8 0,.int .u8 0,.int .u8 0,.int .u8 0,.int .u8 0,.int .u8 0,.int .u8 0,.int .u8 0,.int .u8 0,.int .u8 0]:Array Value)=Z:=⟨_,rfl⟩;have VN:Z=(ag ak).toArray:=hZ.symm;obtain⟨W2,p5⟩:∃W2,W1.alloc (.cells Z 209)=W2:=⟨_,rfl⟩;have bu:Below W1.heap.size W1 W2:=by rw[<-p5];exact(Below.refl _ _).alloc (jC _) _
 have sQ:aj W2 w.heap.size ak:=by rw[<-p5,<-mZ,VN];exact aj.new W1 (by decide)
 clear VN;have fp:=aj.room sQ;have mP:=fu hE.len;obtain⟨V,hV⟩:∃V,W2.setCells w.heap.size 0 (ag (E.getD b []))=V:=⟨_,rfl⟩;have Hy:aj V w.heap.size (E.getD b []):=by rw[<-hV];exact aj.store sQ hE.len
 have NG:Below W1.heap.size W1 V:=by rw[<-hV];exact aU bu (by omega) _ _
 have JN:=h1.below NG;have OO:Fr O w O V:=F1.trans (Fr.of NG);have Un:(⟨m.blocks,b⟩:Mk).Small K:=⟨Le,hm.many,hm.lines⟩;have OR:¬O w.heap.size:=h.fresh (jC _);have Zy:w.heap.size<V.heap.size:=Hy.lt;have HE:Hid (iS q E un b m=if E.getD b []=ak then(⟨m.blocks,b⟩:Mk).put [dC b]else(⟨m.blocks,b⟩:Mk).items (bg q un (q.blocks.getD b []) (E.getD b []))):=rfl;have KR:=q5 w.heap.size (E.getD b []) V Hy hE.lt;have SV:=S.below JN.from;generalize E.getD b []=e0 at*;go_enter Tryz.func81,Tryz.ntmps81
 go_upto_region 2 with fail
 clear k9 p5 hV hZ has Lh x1 x2 fp mP bu sQ NG c27 f27 F1 h1 BI hR;by_cases he:e0=ak
 ·have hr:(!(e0==ak))=false:=by rw[he];simp
  rw[hr]at KR;have S4:Hid (iS q E un b m=(⟨m.blocks,b⟩:Mk).put [dC b]):=HE.out.trans (jb he);clear HE hr he;have KT:=rh b V;have HP:Hid (∀{W:World} {g:Nat},Below V.heap.size V W->V.heap.size<=g->W.heap[g]?=some (.cells #[.int .i64 (b:Nat)] 3 (0,0))->Calls Tryz.prog 130 #[.pointer (some ⟨x,0,none⟩),.slice (some ⟨W.heap.size,0,none⟩) 1 1] (W.alloc (.cells #[.int .i64 0,.int .i64 18,.slice none 0 0,.int .i64 0,.int .i64 0,.slice (some ⟨g,0,none⟩) 1 1] 115)) fun e w'=>e=.returned (.tuple #[])/\∃O',bG z w0 x a (.slice (some ⟨ap,0,none⟩) q.blocks.length q.blocks.length) w' un ((⟨m.blocks,b⟩:Mk).put [dC b]) O'/\Fr O w O' w'):=fun{W g} hW hg hr=>by
   have Ch:Below V.heap.size V (W.alloc (.cells #[.int .i64 0,.int .i64 18,.slice none 0 0,.int .i64 0,.int .i64 0,.slice (some ⟨g,0,none⟩) 1 1] 115)):=hW.alloc hW.size _;have SU:(W.alloc (.cells #[.int .i64 0,.int .i64 18,.slice none 0 0,.int .i64 0,.int .i64 0,.slice (some ⟨g,0,none⟩) 1 1] 115)).heap[g]?=some (.cells #[.int .i64 (b:Nat)] 3 (0,0)):=(((Below.refl W.heap.size W).alloc (jC _) _).block g (lt_of_heap hr)).trans hr;refine(fz (c:=1) (ls:=[dC b]) (JN.below Ch) Un.at_ (ie (g:=W.heap.size) (vp:=.slice none 0 0) (vn:=.slice (some ⟨g,0,none⟩) 1 1) ⟨World.ownsRow_nil _ _ _ _,Lv (by omega) SU⟩ jD) (by simp) (by have:=Un.lines b;show((⟨m.blocks,b⟩:Mk).blocks.getD b []).length+[dC b].length<=_;rw[List.length_singleton];omega)).mono ?_;rintro e w' ⟨rfl,O9,h9,F9⟩;exact⟨rfl,O9,h9,OO.trans ((Fr.of Ch).trans F9)⟩
  go_wp2_with (first
   |(go_at_call 129;refine KR.mono ?_;rintro e w1 ⟨rfl,rfl⟩)
   |(go_at_call 131;refine KT.mono ?_;rintro e w2 ⟨g,rfl,bu,JT,mQ⟩;have KP:=HP.out bu JT mQ)
   |(go_at_call 130;refine KP.mono ?_;rintro e w3 ⟨rfl,O9,h9,F9⟩))
  try simp only[Exit.inBlock,Exit.then]
  refine bodyPost_ret (results_none rfl _ _ _) rfl ?_;exact⟨rfl,O9,by rw[S4.out];exact h9,F9⟩
 ·have hr:(!(e0==ak))=true:=by simp[he]
  rw[hr]at KR;have S4:Hid (iS q E un b m=(⟨m.blocks,b⟩:Mk).items (bg q un (q.blocks.getD b []) e0)):=HE.out.trans (ja he);clear HE hr he;obtain⟨gb,cb,adk,ck,rfl,ym,sX,aQ,DW⟩:=et SV.prog b hb;obtain⟨p0,p1,-,-⟩:=fe.facts SV.prog;obtain⟨x1,-⟩:=JN.zero;have HB:Hid (cH z w0 (.slice adk (q.blocks.getD b []).length ck) (q.blocks.getD b []) (vss.getD b [])):=by
   have h1:=S.prog.each b hb;rw[DW]at h1;exact h1
  have oF:∀l∈q.blocks.getD b [],iB q.locals.length q.blocks.length l:=S.ok.lines _ (by simp[hb]);have mO:=S.long b;clear DW;generalize q.blocks.getD b []=aD at*;generalize vss.getD b []=vsj at*;go_wp2_with (go_at_call 129;refine KR.mono ?_;rintro e w1 ⟨rfl,rfl⟩)
  clear KR;go_loopg [36] (aD.length) (fun g v36 wr=>∃(k:Nat) (O':Nat->Prop),k<=aD.length/\g+k=aD.length/\v36=.int .i64 k/\bG z w0 x a (.slice (some ⟨ap,0,none⟩) q.blocks.length q.blocks.length) wr un ((⟨m.blocks,b⟩:Mk).items (bg q un (aD.take k) e0)) O'/\aj wr w.heap.size (eH q (aD.take k) e0)/\¬O' w.heap.size/\Fr O w O' wr)
  case atStart=>exact⟨0,O,jQ _,rfl,rfl,JN,Hy,OR,OO⟩
  case round=>
   obtain⟨k,O',hk,yp,rfl,iC,rA,hOr,DO⟩:=hrel;clear JN Hy OO aQ p0 p1 x1;by_cases aP:k<aD.length
   ·obtain⟨gl,apl,cp,an,cn,rfl,-,DS,rH,k0,k1,k2,k3,k4,k5,Cd⟩:=iI HB.out k aP;have hl:=oF (aD.getD k ab.nil) (by simp[aP]);have Cs:=qv q (aD.take k) hE;have HI:Hid ((⟨m.blocks,b⟩:Mk).items (bg q un (aD.take (k+1)) e0)=((⟨m.blocks,b⟩:Mk).items (bg q un (aD.take k) e0)).items (bo q un (eH q (aD.take k) e0) (aD.getD k ab.nil))):=by
     unfold Hid;rw[eY aP ab.nil,tc,fM]
    have HT:Hid (eH q (aD.take (k+1)) e0=au q (aD.getD k ab.nil) (eH q (aD.take k) e0)):=by unfold Hid;rw[eY aP ab.nil,ma]
    have Lp:((⟨m.blocks,b⟩:Mk).items (bg q un (aD.take k) e0)).Small (K+254*k):=(Un.items _ (ku S.jt un (aD.take k) e0 (fun l hl=>oF l (List.mem_of_mem_take hl))).1).mono (by have:=(ku S.jt un (aD.take k) e0 (fun l hl=>oF l (List.mem_of_mem_take hl))).2;rw[List.length_take]at this;omega);have Xw:K+254*k<=80000:=by omega
    have c0:=(iC.from.cell (p:=⟨gl,k*6,none⟩) rH).trans k0;have c1:=(iC.from.cell (p:=⟨gl,k*6+1,none⟩) rH).trans k1;have c2:=(iC.from.cell (p:=⟨gl,k*6+2,none⟩) rH).trans k2;have c3:=(iC.from.cell (p:=⟨gl,k*6+3,none⟩) rH).trans k3;have c4:=(iC.from.cell (p:=⟨gl,k*6+4,none⟩) rH).trans k4;have c5:=(iC.from.cell (p:=⟨gl,k*6+5,none⟩) rH).trans k5;clear k0 k1 k2 k3 k4 k5;have EX:(k:Int)<aD.length:=by omega
    generalize aD.getD k ab.nil=l at*;generalize eH q (aD.take k) e0=t at*;generalize (⟨m.blocks,b⟩:Mk).items (bg q un (aD.take k) e0)=mk at*;have ko:Below wr.heap.size wr (wr.alloc (.cells #[.int .i64 (l.num:Nat),.int .i64 (l.op:Nat),.slice apl l.places.length cp,.int .i64 l.number,.int .i64 l.flag,.slice an l.next.length cn] 115)):=(Below.refl _ _).alloc (jC _) _;have vw:(wr.alloc (.cells #[.int .i64 (l.num:Nat),.int .i64 (l.op:Nat),.slice apl l.places.length cp,.int .i64 l.number,.int .i64 l.flag,.slice an l.next.length cn] 115)).heap[wr.heap.size]?=some (.cells #[.int .i64 (l.num:Nat),.int .i64 (l.op:Nat),.slice apl l.places.length cp,.int .i64 l.number,.int .i64 l.flag,.slice an l.next.length cn] 115 (0,0)):=jD;go_upto_region 7 with fail
    generalize (wr.alloc (.cells #[.int .i64 (l.num:Nat),.int .i64 (l.op:Nat),.slice apl l.places.length cp,.int .i64 l.number,.int .i64 l.flag,.slice an l.next.length cn] 115))=WL at*;have Sh:=iC.below ko;have BL:=rA.below ko rA.lt;have TD:¬O' wr.heap.size:=iC.fresh (jC _);have Sf:=DO.trans (Fr.of ko);have l0:=(cell_of_heap vw 0).trans (by rfl:_=some (Value.int .i64 (l.num:Nat)));have l1:=(cell_of_heap vw 1).trans (by rfl:_=some (Value.int .i64 (l.op:Nat)));have l2:=(cell_of_heap vw 2).trans (by rfl:_=some (Value.slice apl l.places.length cp));have l3:=(cell_of_heap vw 3).trans (by rfl:_=some (Value.int .i64 l.number));have l4:=(cell_of_heap vw 4).trans (by rfl:_=some (Value.int .i64 l.flag));have l5:=(cell_of_heap vw 5).trans (by rfl:_=some (Value.slice an l.next.length cn));have t0:=aj.has BL;have o0:=aj.of BL;have KM:=yL G6 Sh Lp Xw t Cs S.pq S.some S.jt Cd hl;clear iC rA DO ko c0 c1 c2 c3 c4 c5;go_upto_region 8 with(go_at_call 132;refine KM.mono ?_;rintro e w2 ⟨rfl,O2,h2,F2⟩)
    clear KM l0 l1 l2 l3 l4 l5 t0 o0;have mQ:=(F2.block wr.heap.size (lt_of_heap vw) TD).trans vw;have mN:=aj.fr BL F2 hOr;have PV:=Sf.trans F2;have fB:¬O2 w.heap.size:=fun e=>(F2.new _ e).elim hOr (fun e=>by have:=BL.lt;omega)
    have jl:Below w2.heap.size w2 w2.drew:=⟨rfl,rfl,rfl,jC _,fun _ _=>rfl⟩;have rz:=h2.below jl;have Mr:aj w2.drew w.heap.size t:=mN;obtain⟨x0,-⟩:=h2.zero;have l0:=(cell_of_heap mQ 0).trans (by rfl:_=some (Value.int .i64 (l.num:Nat)));have l1:=(cell_of_heap mQ 1).trans (by rfl:_=some (Value.int .i64 (l.op:Nat)));have l2:=(cell_of_heap mQ 2).trans (by rfl:_=some (Value.slice apl l.places.length cp));have l3:=(cell_of_heap mQ 3).trans (by rfl:_=some (Value.int .i64 l.number));have l4:=(cell_of_heap mQ 4).trans (by rfl:_=some (Value.int .i64 l.flag));have l5:=(cell_of_heap mQ 5).trans (by rfl:_=some (Value.slice an l.next.length cn));have KP:=mc q l q.blocks.length z a w.heap.size vl _ apl an cp cn t w2.drew (S.pq.below rz.from) S.jt hl (Cd.below rz.from) Mr Cs.lt;go_region_with (go_at_call 128;refine KP.mono ?_;rintro e w3 ⟨rfl,BK,vH⟩)
    all_goals go_wp2_with fail
    all_goals
     go_roundg (aD.length-(k+1))
     case measure=>omega
     case rel=>exact⟨k+1,O2,by omega,by omega,by go_num,by rw[HI.out];exact rz.eo Mr fB (by omega) vH,by rw[HT.out];exact BK,fB,(PV.trans (Fr.of jl)).eo vH (jC _)⟩
   ·have la:k=aD.length:=by omega
    subst la;rw[List.take_length]at iC;go_wp2
    go_end0
    exact⟨rfl,O',by rw[S4.out];exact iC,DO⟩
end
end El
end Go.Proofs.YtmlgajhhnojdjaaGreatDoor

import Derived.Test.YtmlgajhhnojdjaaGreatDoorRBK
namespace Go.Proofs.YtmlgajhhnojdjaaGreatDoor
namespace Own
open Go Go.RowKit Sq Aux PrjJ PrjK PrjL PrjM PrjQ PrjS PrjT FlwA FlwB FlwD FlwE FlwM
attribute [local go_sem ↓] Fp Fo Ft
attribute [local go_sem] Cu Ha Lc ED Hc
def PD (r:Nat×Int×Own):Value:=.agg #[.int .i64 ((r.1:Nat):Int),.int .i64 r.2.1,.string (bs r.2.2.yd.text),.int .i64 r.2.2.yd.live]
theorem Qz {z a:Nat}{w0:World}{q:QP}{vl vb:Value}{us:List Value}{vss:List (List (Value×Value))}(h:lD z a w0 q vl vb us vss){b:Nat}(hb:b<q.blocks.length):
  ∃gb cb adk ck,vb=.slice (some ⟨gb,0,none⟩) q.blocks.length cb/\q.blocks.length<=cb/\(∀W,Below w0.heap.size w0 W->W.cell? ⟨gb,b,none⟩=some (.slice adk (q.blocks.getD b []).length ck))/\fh z w0 (.slice adk (q.blocks.getD b []).length ck) (q.blocks.getD b []) (vss.getD b []):=by
 obtain⟨gb,cb,adk,ck,e,FB,Rw,aC,hus⟩:=pr h b hb;refine⟨gb,cb,adk,ck,e,FB,fun W hW=>(hW.cell (p:=⟨gb,b,none⟩) Rw).trans aC,?_⟩;have h1:=h.each b hb;rw[hus]at h1;exact h1
theorem Vl {z:Nat}{w0:World}{ad:Option Addr}{n c:Nat}{ls:List aa}{vs:List (Value×Value)}(h:fh z w0 (.slice ad n c) ls vs){j:Nat}(hj:j<ls.length):
  ∃g ap cp an cn,ad=some ⟨g,0,none⟩/\n=ls.length/\ls.length<=c/\∀W,Below w0.heap.size w0 W->(W.cell? ⟨g,j*6,none⟩=some (.int .i64 ((ls.getD j aa.nil).num:Nat))/\W.cell? ⟨g,j*6+1,none⟩=some (.int .i64 ((ls.getD j aa.nil).op:Nat))/\W.cell? ⟨g,j*6+2,none⟩=some (.slice ap (ls.getD j aa.nil).places.length cp)/\
   W.cell? ⟨g,j*6+3,none⟩=some (.int .i64 (ls.getD j aa.nil).number)/\W.cell? ⟨g,j*6+4,none⟩=some (.int .i64 (ls.getD j aa.nil).flag)/\W.cell? ⟨g,j*6+5,none⟩=some (.slice an (ls.getD j aa.nil).next.length cn))/\
   bp z W (ls.getD j aa.nil) (.slice ap (ls.getD j aa.nil).places.length cp) (.slice an (ls.getD j aa.nil).next.length cn):=by
 obtain⟨g,ap,cp,an,cn,e,hn,hc,hg,k0,k1,k2,k3,k4,k5,X8⟩:=pq h j hj;refine⟨g,ap,cp,an,cn,e,hn,hc,fun W hW=>⟨⟨(hW.cell (p:=⟨g,j*6,none⟩) hg).trans k0,(hW.cell (p:=⟨g,j*6+1,none⟩) hg).trans k1,(hW.cell (p:=⟨g,j*6+2,none⟩) hg).trans k2,(hW.cell (p:=⟨g,j*6+3,none⟩) hg).trans k3,(hW.cell (p:=⟨g,j*6+4,none⟩) hg).trans k4,(hW.cell (p:=⟨g,j*6+5,none⟩) hg).trans k5⟩,?_⟩⟩;have h1:=h.each j hj;rw[X8]at h1;exact bp.below h1 hW
structure ROk (q:QP)(l:aa):Prop where
 op:km l.op\/l.op=6\/l.op=9\/l.op=18\/l.op=19\/l.op=20\/l.op=22
 hl:l.op=12\/l.op=14->(QP.ab q (ah l 0)).length=(QP.ab q (ah l 1)).length
theorem O8 {w:World}{a:Nat}{vi:Value}{ak:List Int}(hf:bX w vi ak)(u v:Value):dn w w.heap.size a ((w.alloc (.cells (bL u v).toArray 104)).setCells w.heap.size 0 (bL (.pointer (some ⟨a,0,none⟩)) vi)) (Own.start ak) vi (.slice none 0 0) (.slice none 0 0):=by
 obtain⟨h1,h2⟩:=ES w u v (.pointer (some ⟨a,0,none⟩)) vi;exact⟨⟨jC _,.inl rfl,h1,World.ownsRow_nil _ _ _ _,World.ownsRow_nil _ _ _ _⟩,h2,by simp[Own.start],by simp[Own.start],hf⟩
theorem pU {w1:World}{R:Nat}{u0 u1 u2 u3:Value}(hR:w1.heap[R]?=some (.cells #[u0,u1,u2,u3] 47 (0,0)))(v0 v1 v2 v3:Value):
  ((((w1.setCell ⟨R,0,none⟩ v0).setCell ⟨R,1,none⟩ v1).setCell ⟨R,2,none⟩ v2).setCell ⟨R,3,none⟩ v3).heap[R]?=some (.cells #[v0,v1,v2,v3] 47 (0,0))/\Below R w1 ((((w1.setCell ⟨R,0,none⟩ v0).setCell ⟨R,1,none⟩ v1).setCell ⟨R,2,none⟩ v2).setCell ⟨R,3,none⟩ v3):=by
 have e1:=Aux.heap_setCell_same hR 0 v0;have e2:=Aux.heap_setCell_same e1 1 v1;have e3:=Aux.heap_setCell_same e2 2 v2;have e4:=Aux.heap_setCell_same e3 3 v3;have hT:=((((bu.refl R w1).setCell 0 v0).setCell 1 v1).setCell 2 v2).setCell 3 v3;exact⟨e4,hT.below (jC _) (Nat.le_of_lt (lt_of_heap hR))⟩
section
variable {a:Nat} {w:World} {q:QP}
set_option maxRecDepth 20000 in
set_option maxHeartbeats 8000000 in
theorem Ug {z:Nat}{vl vb:Value}{us:List Value}{vss:List (List (Value×Value))}(h:lD z a w q vl vb us vss)(vi:Value)(ak:List Int)(hf:bX w vi ak)(pG:∀n∈ak,aN n)(fuel room:Nat)(hfu:fuel<=1000)(_hro:room<=50)
  (fB:0<q.blocks.length) (_hn:q.blocks.length<=4000) (ic:q.locals.length<=12) (hq:Jw q.blocks.length q) (eX:∀j,(q.blocks.getD j []).length<=4000) (hrok:∀j,∀l∈q.blocks.getD j [],ROk q l) (qv:Pow w) (oL:11<=w.heap.size)
  {ans:Nat×Int×Own} (UE:dZ q (room:Nat) fuel (q.blocks.getD 0 []) (Own.start ak)=some ans):
  Calls Tryz.prog 44 #[.pointer (some ⟨a,0,none⟩),vi,.int .i64 (fuel:Nat),.int .i64 (room:Nat)] w fun e w'=>e=.returned (PD ans)/\Below w.heap.size w w':=by
 obtain⟨w0,qS⟩:∃w0,w.alloc (.cells #[.int .i64 0,.int .i64 0,.string ⟨#[]⟩,.int .i64 0] 47)=w0:=⟨_,rfl⟩;have UH:Below w.heap.size w w0:=by rw[<-qS];exact(Below.refl _ _).alloc (jC _) _
 have Oj:w0.heap.size=w.heap.size+1:=by rw[<-qS];simp
 have Xh:w0.heap[w.heap.size]?=some (.cells #[.int .i64 0,.int .i64 0,.string ⟨#[]⟩,.int .i64 0] 47 (0,0)):=by rw[<-qS];exact jD
 have YG:=h.below UH;have U5:=qv.below UH oL;have Oc:bX w0 vi ak:=by
  obtain⟨ad,c,rfl,h1,h2,h3⟩:=hf;refine⟨ad,c,rfl,h1,h2,fun j hj=> ?_⟩;obtain⟨g,f,e,hg,hc⟩:=h3 j hj;exact⟨g,f,e,by omega,(UH.cell (p:=⟨g,f+j,none⟩) hg).trans hc⟩
 have V7:=O8 (a:=a) Oc (.pointer none) (.slice none 0 0);have oO:=IP w0 (.pointer none) (.slice none 0 0);have hH:Hid (dZ q (room:Nat) fuel (q.blocks.getD 0 []) (Own.start ak)=some ans):=UE;obtain⟨ad,c,rfl,-⟩:=hf;clear UE h qv;rw[Oj]at V7 oO;go_enter Tryz.func44,Tryz.ntmps44
 go_wp2
 try rw[qS]
 refine Jj ?_;intro J hJ;go_upto_region 2 with fail
 clear oO qS Oc;generalize ((w0.alloc (Obj.cells (bL (Value.pointer none) (Value.slice none 0 0)).toArray 104)).setCells (w.heap.size+1) 0 (bL (Value.pointer (some {block:=a,off:=0})) (Value.slice ad ak.length c)))=W0 at*;have Rc:=(Own.In.start pG).mono (jQ (3*(1000-fuel)));have iq:Hid (∃o vi vm vt,dn w0 (w.heap.size+1) a W0 o vi vm vt/\o.In (3*(1000-fuel))/\dZ q (room:Nat) fuel (q.blocks.getD 0 []) o=some ans):=⟨_,_,_,_,V7,Rc,hH.out⟩;clear V7 Rc hH;go_wp2
 go_loopg [2,11] (fuel+1) (fun g v2 v11 wr=>∃(f b:Nat),g=f+1/\f<=1000/\v2=.int .i64 f/\v11=.int .i64 b/\b<q.blocks.length/\Hid (∃o vi vm vt,dn w0 (w.heap.size+1) a wr o vi vm vt/\o.In (3*(1000-f))/\dZ q (room:Nat) f (q.blocks.getD b []) o=some ans))
 case atStart=>exact⟨fuel,0,rfl,hfu,rfl,rfl,fB,iq⟩
 case round=>
  obtain⟨f0,b,hg,Oc,rfl,rfl,hb,iq⟩:=hrel;obtain⟨gb,cb,adk,ck,rfl,FB,hbc,Zn⟩:=Qz YG hb;have TU:(b:Int)<(q.blocks.length:Nat):=by omega
  have hold:Below w0.heap.size w0 wr:=by obtain⟨o,vi,vm,vt,h1,-⟩:=iq.out;exact h1.bq
  obtain⟨p0,p1,-,-⟩:=lD.facts (YG.below hold);have aC:=hbc wr hold;have kZ:=eX b;have cd:∀l∈q.blocks.getD b [],tR q.locals.length q.blocks.length l:=hq.lines _ (by simp[hb]);have hrk:∀l∈q.blocks.getD b [],ROk q l:=hrok b;generalize bU:q.blocks.getD b []=aI at*;clear bU hbc;generalize vss.getD b []=vsj at*;have ea:0<aI.length:=by
   obtain⟨o,vi,vm,vt,-,-,h3⟩:=iq.out;cases aI with
   |nil=>cases f0<;>simp[dZ]at h3
   |cons _ _=>simp
  have HD:Hid (∀k,k<aI.length->aI.drop k=aI.getD k aa.nil::aI.drop (k+1)):=fun k hk=>by rw[jE hk];simp[hk]
  have VX:Hid (∀W W',Below w0.heap.size w0 W->Below W.heap.size W W'->W'.heap[w.heap.size]?=some (.cells #[.int .i64 0,.int .i64 0,.string ⟨#[]⟩,.int .i64 0] 47 (0,0))):=fun W W' h1 h2=>by
   have hs:=h1.size;rw[h2.block _ (by omega),h1.block _ (by omega)];exact Xh
  go_wp2
  go_loopg [2,11,26] (aI.length) (fun g v2 v11 v26 wn=>∃(k f b':Nat),g+k=aI.length/\f+k=f0/\v2=.int .i64 f/\v11=.int .i64 b'/\v26=.int .i64 k/\Hid (∃o vi vm vt,dn w0 (w.heap.size+1) a wn o vi vm vt/\o.In (3*(1000-f))/\((k<aI.length/\dZ q (room:Nat) f (aI.drop k) o=some ans)\/(k=aI.length/\b'<q.blocks.length/\dZ q (room:Nat) f (q.blocks.getD b' []) o=some ans))))
  case atStart=>
   obtain⟨o,vi,vm,vt,h1,h2,h3⟩:=iq.out;exact⟨0,f0,b,rfl,rfl,rfl,rfl,rfl,o,vi,vm,vt,h1,h2,.inl ⟨ea,h3⟩⟩
  case round=>
   obtain⟨k,f,b',GH,hfk,rfl,rfl,rfl,iq⟩:=hrel;clear p0 p1 aC hold;by_cases hk:k<aI.length
   ·obtain⟨o,vi,vm,vt,hO,hI,zJ⟩:=iq.out;have HR:Hid (dZ q (room:Nat) f (aI.getD k aa.nil::aI.drop (k+1)) o=some ans):=by
     rcases zJ with⟨-,h⟩|⟨h,-⟩
     ·rw[HD.out k hk]at h;exact h
     ·omega
    clear zJ iq;obtain⟨gl,apl,cp,an,cn,rfl,-,AV,HL⟩:=Vl Zn hk;have xT:aI.getD k aa.nil∈aI:=by simp[hk]
    have hl:=cd _ xT;have hr:=hrk _ xT;have hki:(k:Int)<(aI.length:Nat):=by omega
    generalize aI.getD k aa.nil=l at*;obtain⟨k0,k1,k2,k3,k4,k5⟩:=(HL _ hO.bq).1;have zI:Below wr.heap.size wr (wr.alloc (.cells #[.int .i64 (l.num:Nat),.int .i64 (l.op:Nat),.slice apl l.places.length cp,.int .i64 l.number,.int .i64 l.flag,.slice an l.next.length cn] 115)):=(Below.refl _ _).alloc (jC _) _;have Ck:=hO.below zI;have MR:=(HL _ Ck.bq).2;have mx:(wr.alloc (.cells #[.int .i64 (l.num:Nat),.int .i64 (l.op:Nat),.slice apl l.places.length cp,.int .i64 l.number,.int .i64 l.flag,.slice an l.next.length cn] 115)).heap[wr.heap.size]?=some (.cells #[.int .i64 (l.num:Nat),.int .i64 (l.op:Nat),.slice apl l.places.length cp,.int .i64 l.number,.int .i64 l.flag,.slice an l.next.length cn] 115 (0,0)):=jD;clear xT zI;have HB4:Hid (∀W W' W'',Below w0.heap.size w0 W->Below W.heap.size W W'->Below w.heap.size W' W''->Below w.heap.size w W''):=fun W W' W'' h1 h2 h3=>by
     have:=h1.size;exact UH.trans (((h1.mono (by omega)).trans (h2.mono (by omega))).trans h3)
    cases f with
    |zero=>
     have hA:ans=(2,0,o):=by have:=HR.out;rw[dZ]at this;exact(Option.some.inj this).symm
     have KR:=fun(W:World) (hW:dn w0 (w.heap.size+1) a W o vi vm vt)=>pV hW.ka 2 0 ((hI.sz (by omega)).ok (by omega))
     subst hA;go_wp2
     apply wp_goto
     refine hJ _ _ _ _ rfl ?_;go_wp2_with (go_at_call 66;go_fit (KR _ Ck);rintro e wz ⟨rfl,Rm⟩;have xN:=VX.out _ _ Ck.bq Rm;have z0:wz.cell? ⟨w.heap.size,0,none⟩=some (.int .i64 0):=(by rw[cell_of_heap xN];rfl);have z1:wz.cell? ⟨w.heap.size,1,none⟩=some (.int .i64 0):=(by rw[cell_of_heap xN];rfl);have z2:wz.cell? ⟨w.heap.size,2,none⟩=some (.string ⟨#[]⟩):=(by rw[cell_of_heap xN];rfl);have z3:wz.cell? ⟨w.heap.size,3,none⟩=some (.int .i64 0):=(by rw[cell_of_heap xN];rfl);have rf:=frozen_of_heap xN;have rf0:=rf 0;have rf1:=rf 1;have rf2:=rf 2;have rf3:=rf 3;clear rf)
     try rw[Exit.noGoto_ret]
     obtain⟨e4,zi⟩:=pU xN (.int .i64 2) (.int .i64 0) (.string (bs o.yd.text)) (.int .i64 o.yd.live);refine bodyPost_ret (dP Tryz.results44 _ _ _ w.heap.size [.int .i64 2,.int .i64 0,.string (bs o.yd.text),.int .i64 o.yd.live] _ rfl (fun j u hu=>by rw[Nat.zero_add,cell_of_heap e4];simpa using hu) Tryz.underlying47 rfl fe) rfl ?_;exact⟨rfl,HB4.out _ _ _ Ck.bq Rm zi⟩
    |succ f=>
     have hF0:(((f+1:Nat):Int)==0)=false:=by rw[jZ];omega
     have HN:Hid (∀o',dZ q (room:Nat) f (aI.drop (k+1)) o'=some ans->k+1<aI.length):=fun o' h=>by
      by_cases aK:k+1<aI.length
      ·exact aK
      ·rw[jT (by omega)]at h;cases f<;>simp[dZ]at h
     rcases hr.op with FD|aw|aw|aw|aw|aw|aw
     ·
      have ea:l.op≠6/\l.op≠9/\l.op≠18/\l.op≠19/\l.op≠20/\l.op≠22:=by unfold km at FD;omega
      have b6:(((l.op:Nat):Int)==6)=false:=by rw[jZ];omega
      have b9:(((l.op:Nat):Int)==9)=false:=by rw[jZ];omega
      have b18:(((l.op:Nat):Int)==18)=false:=by rw[jZ];omega
      have b19:(((l.op:Nat):Int)==19)=false:=by rw[jZ];omega
      have b20:(((l.op:Nat):Int)==20)=false:=by rw[jZ];omega
      have b22:(((l.op:Nat):Int)==22)=false:=by rw[jZ];omega
      have kb:=HR.out;rw[dZ,ja ea.1,ja ea.2.1,ja (by omega),ja ea.2.2.2.2.2]at kb;have sJ:o.bD l=true:=by
       cases hv:o.bD l with
       |true=>rfl
       |false=>rw[hv,ja (by decide)]at kb;cases kb
      rw[jb sJ]at kb;have Mq:Hid (dZ q (room:Nat) f (aI.drop (k+1)) (o.fy q l)=some ans):=kb;have N6:=(hI.fy (by omega) q l (by have:=hl.number;unfold aN;omega)).mono (show 3*(1000-(f+1))+3<=3*(1000-f) by omega);have KD:=W6 Ck MR hl ic FD hI (by omega) sJ ⟨YG.aI,⟨_,YG.locals⟩⟩ hr.hl U5 (by omega);clear HR kb sJ ea FD;generalize o.fy q l=o2 at*;go_wp2_with (go_at_call 65;go_fit KD;rintro e w1 ⟨rfl,vi2,vm2,vt2,iM,r2⟩)
      go_roundg (aI.length-(k+1))
      case measure=>omega
      case rel=>exact⟨k+1,f,b',by omega,by omega,by go_num,rfl,by go_num,o2,vi2,vm2,vt2,iM,N6,.inl ⟨HN.out _ Mq.out,Mq.out⟩⟩
     ·
      have b6:(((l.op:Nat):Int)==6)=true:=by rw[beq_iff_eq];omega
      have b9:(((l.op:Nat):Int)==9)=false:=by rw[jZ];omega
      have b18:(((l.op:Nat):Int)==18)=false:=by rw[jZ];omega
      have b19:(((l.op:Nat):Int)==19)=false:=by rw[jZ];omega
      have b20:(((l.op:Nat):Int)==20)=false:=by rw[jZ];omega
      have b22:(((l.op:Nat):Int)==22)=false:=by rw[jZ];omega
      have hlen:l.places.length=3:=by rw[hl.cP,aw];rfl
      obtain⟨g,rfl,ql,hg,c1,c2⟩:=bm MR hlen 2 (by omega);have hx:=(hl.places (l.places.getD 2 (0,0)) (by simp[hlen])).1;have kb:=HR.out;rw[dZ,jb aw]at kb;have KC:=fun(W:World) (hb:Below (wr.alloc (.cells #[.int .i64 (l.num:Nat),.int .i64 (l.op:Nat),.slice (some ⟨g,0,none⟩) l.places.length cp,.int .i64 l.number,.int .i64 l.flag,.slice an l.next.length cn] 115)).heap.size (wr.alloc (.cells #[.int .i64 (l.num:Nat),.int .i64 (l.op:Nat),.slice (some ⟨g,0,none⟩) l.places.length cp,.int .i64 l.number,.int .i64 l.flag,.slice an l.next.length cn] 115)) W) (hz:¬o.num (ah l 2)=0)=>sC (Ck.below hb) (bp.below MR hb) hl ic (.inr (.inr (.inr aw))) (fun _=>hz) hI.rj
      have hC:Hid (({o with ints:=o.ints.set (aa.pl l 0).1 (ve l.op (o.num (aa.pl l 1)) (o.num (aa.pl l 2)))}:Own)=o.calc l):=rfl;rw[hC.out]at KC;have KN:=ei Ck (l.places.getD 2 (0,0)) (by omega);have N6:(o.calc l).In (3*(1000-f)):=(hI.setInt _ (Aq _ _ _)).mono (show 3*(1000-(f+1))<=3*(1000-f) by omega);rw[hlen]at Ck MR mx c1 c2 KC KN;rw[hlen]at k2;have gK:ah l 2=l.places.getD 2 (0,0):=rfl;rw[gK]at kb KC;clear gK hC;generalize l.places.getD 2 (0,0)=p2 at*;by_cases hz:o.num p2=0
      ·have hzb:(o.num p2==0)=true:=by rw[hz];rfl
       rw[jb hz]at kb;have hA:ans=(4,0,o):=(Option.some.inj kb).symm;subst hA;have KR:=fun(W:World) (hW:dn w0 (w.heap.size+1) a W o vi vm vt)=>pV hW.ka 4 0 ((hI.sz (by omega)).ok (by omega))
       clear HR kb hz KC hlen aw;generalize o.num p2=n2 at*;go_wp2_with (go_at_call 58;go_fit KN;rintro e w1 ⟨rfl,h1⟩;have mn:=Ck.below h1)
       apply wp_goto
       refine hJ _ _ _ _ rfl ?_;go_wp2_with (go_at_call 66;go_fit (KR _ mn);rintro e wz ⟨rfl,Rm⟩;have xN:=VX.out _ _ mn.bq Rm;have z0:wz.cell? ⟨w.heap.size,0,none⟩=some (.int .i64 0):=(by rw[cell_of_heap xN];rfl);have z1:wz.cell? ⟨w.heap.size,1,none⟩=some (.int .i64 0):=(by rw[cell_of_heap xN];rfl);have z2:wz.cell? ⟨w.heap.size,2,none⟩=some (.string ⟨#[]⟩):=(by rw[cell_of_heap xN];rfl);have z3:wz.cell? ⟨w.heap.size,3,none⟩=some (.int .i64 0):=(by rw[cell_of_heap xN];rfl);have rf:=frozen_of_heap xN;have rf0:=rf 0;have rf1:=rf 1;have rf2:=rf 2;have rf3:=rf 3;clear rf)
       try rw[Exit.noGoto_ret]
       obtain⟨e4,zi⟩:=pU xN (.int .i64 4) (.int .i64 0) (.string (bs o.yd.text)) (.int .i64 o.yd.live);refine bodyPost_ret (dP Tryz.results44 _ _ _ w.heap.size [.int .i64 4,.int .i64 0,.string (bs o.yd.text),.int .i64 o.yd.live] _ rfl (fun j u hu=>by rw[Nat.zero_add,cell_of_heap e4];simpa using hu) Tryz.underlying47 rfl fe) rfl ?_;exact⟨rfl,HB4.out _ _ _ mn.bq Rm zi⟩
      ·have hzb:(o.num p2==0)=false:=by rw[jZ];exact hz
       rw[ja hz]at kb;have Mq:Hid (dZ q (room:Nat) f (aI.drop (k+1)) (o.calc l)=some ans):=kb;have KC2:=fun W hb=>KC W hb hz
       clear HR kb hz KC hlen aw;generalize o.num p2=n2 at*;generalize o.calc l=o2 at*;go_wp2_with (first
        |(go_at_call 58;go_fit KN;rintro e w1 ⟨rfl,h1⟩;have mw:=(h1.block _ (lt_of_heap mx)).trans mx;have m0:w1.cell? ⟨wr.heap.size,0,none⟩=_:=cell_of_heap mw 0;have m1:w1.cell? ⟨wr.heap.size,1,none⟩=_:=cell_of_heap mw 1;have m2:w1.cell? ⟨wr.heap.size,2,none⟩=_:=cell_of_heap mw 2;have m3:w1.cell? ⟨wr.heap.size,3,none⟩=_:=cell_of_heap mw 3;have m4:w1.cell? ⟨wr.heap.size,4,none⟩=_:=cell_of_heap mw 4;have m5:w1.cell? ⟨wr.heap.size,5,none⟩=_:=cell_of_heap mw 5;simp at m0 m1 m2 m3 m4 m5)
        |(go_at_call 59;go_fit (KC2 _ h1);rintro e w2 ⟨rfl,iM,r2⟩))
       go_roundg (aI.length-(k+1))
       case measure=>omega
       case rel=>exact⟨k+1,f,b',by omega,by omega,by go_num,rfl,by go_num,o2,vi,vm,vt,iM,N6,.inl ⟨HN.out _ Mq.out,Mq.out⟩⟩
     ·
      have b6:(((l.op:Nat):Int)==6)=false:=by rw[jZ];omega
      have b9:(((l.op:Nat):Int)==9)=true:=by rw[beq_iff_eq];omega
      have b18:(((l.op:Nat):Int)==18)=false:=by rw[jZ];omega
      have b19:(((l.op:Nat):Int)==19)=false:=by rw[jZ];omega
      have b20:(((l.op:Nat):Int)==20)=false:=by rw[jZ];omega
      have b22:(((l.op:Nat):Int)==22)=false:=by rw[jZ];omega
      have hlen:l.places.length=2:=by rw[hl.cP,aw];rfl
      obtain⟨g,rfl,ql,hg,-,-⟩:=bm MR hlen 0 (by omega);have Ju:=(hl.places (l.places.getD 0 (0,0)) (by simp[hlen])).1;have zn:=(hl.places (l.places.getD 1 (0,0)) (by simp[hlen])).1;have PC:Hid (∀W,Below w0.heap.size w0 W->W.cell? ⟨g,0,none⟩=some (.int .i64 ((l.places.getD 0 (0,0)).1:Nat))/\W.cell? ⟨g,1,none⟩=some (.int .i64 ((l.places.getD 0 (0,0)).2:Nat))/\W.cell? ⟨g,2,none⟩=some (.int .i64 ((l.places.getD 1 (0,0)).1:Nat))/\W.cell? ⟨g,3,none⟩=some (.int .i64 ((l.places.getD 1 (0,0)).2:Nat))):=fun W hW=>by
       have hp:=(HL W hW).2.places;exact⟨(bB hp (j:=0) (by omega)).1,(bB hp (j:=0) (by omega)).2,(bB hp (j:=1) (by omega)).1,(bB hp (j:=1) (by omega)).2⟩
      have kb:=HR.out;rw[dZ,ja (by omega),jb aw]at kb;have e0:ah l 0=l.places.getD 0 (0,0):=rfl;have e1:ah l 1=l.places.getD 1 (0,0):=rfl;rw[e0,e1]at kb;obtain⟨c0,c1,c2,c3⟩:=PC.out _ Ck.bq;rw[hlen]at Ck MR mx c0 c1 c2 c3;rw[hlen]at k2;clear e0 e1 HR aw;generalize l.places.getD 0 (0,0)=p0 at*;generalize l.places.getD 1 (0,0)=p1 at*;have TT:Below (wr.alloc (.cells #[.int .i64 (l.num:Nat),.int .i64 (l.op:Nat),.slice (some ⟨g,0,none⟩) 2 cp,.int .i64 l.number,.int .i64 l.flag,.slice an l.next.length cn] 115)).heap.size (wr.alloc (.cells #[.int .i64 (l.num:Nat),.int .i64 (l.op:Nat),.slice (some ⟨g,0,none⟩) 2 cp,.int .i64 l.number,.int .i64 l.flag,.slice an l.next.length cn] 115)) ((wr.alloc (.cells #[.int .i64 (l.num:Nat),.int .i64 (l.op:Nat),.slice (some ⟨g,0,none⟩) 2 cp,.int .i64 l.number,.int .i64 l.flag,.slice an l.next.length cn] 115)).alloc (.cells #[.int .i64 (p0.1:Nat),.int .i64 (p0.2:Nat)] 119)):=(Below.refl _ _).alloc (jC _) _;have hOP:=Ck.below TT;have KD:=fX hOP (iH (wr.alloc (.cells #[.int .i64 (l.num:Nat),.int .i64 (l.op:Nat),.slice (some ⟨g,0,none⟩) 2 cp,.int .i64 l.number,.int .i64 l.flag,.slice an l.next.length cn] 115)) p0 (n:=wr.heap.size+1) (by simp)) (fun y hy=>by simp only[List.mem_singleton]at hy;subst hy;omega) (by simp) hI.bx (hI.sz (by omega)) (by simp;omega) U5 (by omega);have TQ:=hI.drop [p0] (by simp;omega);have RG:(o.drop [p0]).num p1=o.num p1:=by unfold Own.num;rw[(ij [p0] o).2.1]
      have Za:Hid (o.num p1=(o.drop [p0]).num p1):=RG.symm;rw[Za.out]at kb;clear hlen RG Za;generalize o.drop [p0]=o1 at*;by_cases P7:o1.yd.live≥(room:Nat)
      ·rw[jb P7]at kb;have hA:ans=(3,0,o1):=(Option.some.inj kb).symm;subst hA;have KR:=fun(W:World) (vm vt:Value) (hW:dn w0 (w.heap.size+1) a W o1 vi vm vt)=>pV hW.ka 3 0 ((TQ.sz (by simp;omega)).ok (by simp;omega))
       have We:decide ((room:Int)<=o1.yd.live)=true:=decide_eq_true P7;clear kb;go_wp2_with (go_at_call 60;go_fit KD;rintro e w2 ⟨rfl,vm2,vt2,iM,r2⟩;obtain⟨f0,f1,f2,-⟩:=iM.ka.facts)
       apply wp_goto
       refine hJ _ _ _ _ rfl ?_;go_wp2_with (go_at_call 66;go_fit (KR _ _ _ iM);rintro e wz ⟨rfl,Rm⟩;have xN:=VX.out _ _ iM.bq Rm;have z0:wz.cell? ⟨w.heap.size,0,none⟩=some (.int .i64 0):=(by rw[cell_of_heap xN];rfl);have z1:wz.cell? ⟨w.heap.size,1,none⟩=some (.int .i64 0):=(by rw[cell_of_heap xN];rfl);have z2:wz.cell? ⟨w.heap.size,2,none⟩=some (.string ⟨#[]⟩):=(by rw[cell_of_heap xN];rfl);have z3:wz.cell? ⟨w.heap.size,3,none⟩=some (.int .i64 0):=(by rw[cell_of_heap xN];rfl);have rf:=frozen_of_heap xN;have rf0:=rf 0;have rf1:=rf 1;have rf2:=rf 2;have rf3:=rf 3;clear rf)
       try rw[Exit.noGoto_ret]
       obtain⟨e4,zi⟩:=pU xN (.int .i64 3) (.int .i64 0) (.string (bs o1.yd.text)) (.int .i64 o1.yd.live);refine bodyPost_ret (dP Tryz.results44 _ _ _ w.heap.size [.int .i64 3,.int .i64 0,.string (bs o1.yd.text),.int .i64 o1.yd.live] _ rfl (fun j u hu=>by rw[Nat.zero_add,cell_of_heap e4];simpa using hu) Tryz.underlying47 rfl fe) rfl ?_;exact⟨rfl,HB4.out _ _ _ iM.bq Rm zi⟩
      ·rw[ja P7]at kb;have Mq:Hid (dZ q (room:Nat) f (aI.drop (k+1)) (o1.new p0 (o1.num p1))=some ans):=kb;have N6:=(TQ.new (by simp;omega) p0 (TQ.num p1)).mono (show 3*(1000-(f+1))+[p0].length+1<=3*(1000-f) by simp;omega);have We:decide ((room:Int)<=o1.yd.live)=false:=decide_eq_false P7;have hfl':o1.yd.live<(room:Int):=by omega
       clear kb P7;have GM:o1.yd.Ok:=(TQ.sz (by simp;omega)).ok (by simp;omega);go_upto_region 18 with(go_at_call 60;go_fit KD;rintro e w2 ⟨rfl,vm2,vt2,iM,r2⟩;obtain⟨f0,f1,f2,-⟩:=iM.ka.facts)
       have Xg:=iM.drew;have hr0:aM (w.heap.size+1) vm2 vt2 w2 vm2 vt2 w2.drew:=aM.of (iZ w2);obtain⟨d0,d1,d2,d3⟩:=PC.out _ iM.bq;have yU:ag p0<24:=by unfold ag;split<;>omega
       have RO:(ag p0:Int)<24:=by omega
       have Ko:aN (o1.num p1):=TQ.num p1;have KS:=fun(W:World)=>kT p0 W (by omega)
       have KN:=fun(W:World) (hW:dn w0 (w.heap.size+1) a W o1 vi vm2 vt2)=>ei hW p1 (by omega)
       have KB:=fun(W:World) (hW:dn w0 (w.heap.size+1) a W o1 vi vm2 vt2)=>NI hW.ka (o1.num p1) (U5.below hW.bq (by omega)) GM (by omega)
       have hgx:g≠w.heap.size+1:=fun e=>by
        have h1:=iM.ka.aI;rw[<-e]at h1;exact ar (HL _ iM.bq).2.places h1 (by decide) rfl
       have YZ:w.heap.size+1≠g:=fun e=>hgx e.symm
       have hE:Hid (({o1 with yd:=o1.yd.build (o1.num p1),boxes:=o1.boxes.set (ag p0) (o1.yd.made.length+1)}:Own)=o1.new p0 (o1.num p1)):=rfl;clear KD GM;generalize o1.num p1=n1 at*;generalize ag p0=sl at*;go_region_held3 (fun W=>W.cell? ⟨g,0,none⟩=some (.int .i64 (p0.1:Nat))/\W.cell? ⟨g,1,none⟩=some (.int .i64 (p0.2:Nat))/\W.cell? ⟨g,2,none⟩=some (.int .i64 (p1.1:Nat))/\W.cell? ⟨g,3,none⟩=some (.int .i64 (p1.2:Nat))) (go_keep)
        (first
        |(go_at_call 62;go_fit (KS wB);rintro e w6 ⟨rfl,h6⟩;have hF2:=hF.below h6;have rF2:=rF.trans (aM.of h6);obtain⟨x0,x1,x2,x3⟩:=PC.out _ hF2.bq;obtain⟨i1,i2⟩:=hF2.bx (j:=sl) yU;have hZ:=hF2;have rZ:=rF2)
        |(go_at_call 62;go_fit (KS wN);rintro e w5 ⟨rfl,h5⟩;have Zr:=hON.below h5;have rC:=rN.trans (aM.of h5);obtain⟨x0,x1,x2,x3⟩:=PC.out _ Zr.bq)
        |(go_at_call 62;go_fit (KS w2.drew);rintro e wS ⟨rfl,h5⟩;have hOS:=Xg.below h5;have rS:=hr0.trans (aM.of h5);obtain⟨x0,x1,x2,x3⟩:=PC.out _ hOS.bq)
        |(go_at_call 58;go_fit (KN _ hOS);rintro e w4 ⟨rfl,h4⟩;have Zr:=hOS.below h4;have rC:=rS.trans (aM.of h4);obtain⟨y0,y1,y2,y3⟩:=PC.out _ Zr.bq)
        |(go_at_call 58;go_fit (KN _ Xg);rintro e wN ⟨rfl,h4⟩;have hON:=Xg.below h4;have rN:=hr0.trans (aM.of h4);obtain⟨y0,y1,y2,y3⟩:=PC.out _ hON.bq)
        |(go_at_call 61;go_fit (KB _ Zr);rintro e wC ⟨rfl,vm3,vt3,hy3,r3⟩;have hZ:=Zr.zu hy3 r3;have rZ:=rC.trans r3;obtain⟨z0,z1,z2,z3⟩:=PC.out _ hZ.bq;obtain⟨i1,i2⟩:=hZ.bx (j:=sl) yU)
        |(go_at_call 61;go_fit (KB _ hON);rintro e wB ⟨rfl,vm3,vt3,hy3,r3⟩;have hF:=hON.zu hy3 r3;have rF:=rN.trans r3;obtain⟨z0,z1,z2,z3⟩:=PC.out _ hF.bq;obtain⟨i1,i2⟩:=hF.bx (j:=sl) yU))
       all_goals go_wp2_with fail
       all_goals
        obtain⟨h7,r7⟩:=hZ.Tg sl (o1.yd.made.length+1);have h8:=h7;rw[hE.out]at h8;go_roundg (aI.length-(k+1))
        case measure=>omega
        case rel=>exact⟨k+1,f,b',by omega,by omega,by go_num,rfl,by go_num,o1.new p0 n1,vi,vm3,vt3,h8,N6,.inl ⟨HN.out _ Mq.out,Mq.out⟩⟩
     ·
      have b6:(((l.op:Nat):Int)==6)=false:=by rw[jZ];omega
      have b9:(((l.op:Nat):Int)==9)=false:=by rw[jZ];omega
      have b18:(((l.op:Nat):Int)==18)=true:=by rw[beq_iff_eq];omega
      have b19:(((l.op:Nat):Int)==19)=false:=by rw[jZ];omega
      have b20:(((l.op:Nat):Int)==20)=false:=by rw[jZ];omega
      have b22:(((l.op:Nat):Int)==22)=false:=by rw[jZ];omega
      have kb:=HR.out;rw[dZ,ja (by omega),ja (by omega),jb (by omega)]at kb;have qR:aI.drop (k+1)=[]:=by
       by_cases lg:aI.drop (k+1)=[]
       ·exact lg
       ·rw[ja lg]at kb;cases kb
      have B7:k+1=aI.length:=by have:=List.drop_eq_nil_iff.mp qR;omega
      rw[jb qR]at kb;have mP:(if o.other l then 1 else 0)<l.next.length:=by
       have h1:l.next.length=1:=by rw[hl.EP,aw];rfl
       rw[h1];have ho:o.other l=false:=(by rw[Own.other,ja (by omega),ja (by omega)]);rw[ho];decide
      have KX:=rh Ck MR hl ic (.inl aw) mP;have Dd:l.next.getD (if o.other l then 1 else 0) 0<q.blocks.length:=hl.next _ (by rw[jA,jB mP];exact jL _);have Mq:Hid (dZ q (room:Nat) f (q.blocks.getD (l.next.getD (if o.other l then 1 else 0) 0) []) o=some ans):=kb;have N6:=hI.mono (show 3*(1000-(f+1))<=3*(1000-f) by omega);clear HR kb qR mP aw;generalize l.next.getD (if o.other l then 1 else 0) 0=bn at*;go_wp2_with (go_at_call 63;go_fit KX;rintro e w1 ⟨rfl,h1⟩)
      go_roundg (aI.length-(k+1))
      case measure=>omega
      case rel=>exact⟨k+1,f,bn,by omega,by omega,by go_num,rfl,by go_num,o,vi,vm,vt,Ck.below h1,N6,.inr ⟨B7,Dd,Mq.out⟩⟩
     ·
      have b6:(((l.op:Nat):Int)==6)=false:=by rw[jZ];omega
      have b9:(((l.op:Nat):Int)==9)=false:=by rw[jZ];omega
      have b18:(((l.op:Nat):Int)==18)=false:=by rw[jZ];omega
      have b19:(((l.op:Nat):Int)==19)=true:=by rw[beq_iff_eq];omega
      have b20:(((l.op:Nat):Int)==20)=false:=by rw[jZ];omega
      have b22:(((l.op:Nat):Int)==22)=false:=by rw[jZ];omega
      have kb:=HR.out;rw[dZ,ja (by omega),ja (by omega),jb (by omega)]at kb;have qR:aI.drop (k+1)=[]:=by
       by_cases lg:aI.drop (k+1)=[]
       ·exact lg
       ·rw[ja lg]at kb;cases kb
      have B7:k+1=aI.length:=by have:=List.drop_eq_nil_iff.mp qR;omega
      rw[jb qR]at kb;have mP:(if o.other l then 1 else 0)<l.next.length:=by
       have h1:l.next.length=2:=by rw[hl.EP,aw];rfl
       rw[h1];split<;>omega
      have KX:=rh Ck MR hl ic (.inr (.inl aw)) mP;have Dd:l.next.getD (if o.other l then 1 else 0) 0<q.blocks.length:=hl.next _ (by rw[jA,jB mP];exact jL _);have Mq:Hid (dZ q (room:Nat) f (q.blocks.getD (l.next.getD (if o.other l then 1 else 0) 0) []) o=some ans):=kb;have N6:=hI.mono (show 3*(1000-(f+1))<=3*(1000-f) by omega);clear HR kb qR mP aw;generalize l.next.getD (if o.other l then 1 else 0) 0=bn at*;go_wp2_with (go_at_call 63;go_fit KX;rintro e w1 ⟨rfl,h1⟩)
      go_roundg (aI.length-(k+1))
      case measure=>omega
      case rel=>exact⟨k+1,f,bn,by omega,by omega,by go_num,rfl,by go_num,o,vi,vm,vt,Ck.below h1,N6,.inr ⟨B7,Dd,Mq.out⟩⟩
     ·
      have b6:(((l.op:Nat):Int)==6)=false:=by rw[jZ];omega
      have b9:(((l.op:Nat):Int)==9)=false:=by rw[jZ];omega
      have b18:(((l.op:Nat):Int)==18)=false:=by rw[jZ];omega
      have b19:(((l.op:Nat):Int)==19)=false:=by rw[jZ];omega
      have b20:(((l.op:Nat):Int)==20)=true:=by rw[beq_iff_eq];omega
      have b22:(((l.op:Nat):Int)==22)=false:=by rw[jZ];omega
      have kb:=HR.out;rw[dZ,ja (by omega),ja (by omega),jb (by omega)]at kb;have qR:aI.drop (k+1)=[]:=by
       by_cases lg:aI.drop (k+1)=[]
       ·exact lg
       ·rw[ja lg]at kb;cases kb
      have B7:k+1=aI.length:=by have:=List.drop_eq_nil_iff.mp qR;omega
      rw[jb qR]at kb;have mP:(if o.other l then 1 else 0)<l.next.length:=by
       have h1:l.next.length=2:=by rw[hl.EP,aw];rfl
       rw[h1];split<;>omega
      have KX:=rh Ck MR hl ic (.inr (.inr aw)) mP;have Dd:l.next.getD (if o.other l then 1 else 0) 0<q.blocks.length:=hl.next _ (by rw[jA,jB mP];exact jL _);have Mq:Hid (dZ q (room:Nat) f (q.blocks.getD (l.next.getD (if o.other l then 1 else 0) 0) []) o=some ans):=kb;have N6:=hI.mono (show 3*(1000-(f+1))<=3*(1000-f) by omega);clear HR kb qR mP aw;generalize l.next.getD (if o.other l then 1 else 0) 0=bn at*;go_wp2_with (go_at_call 63;go_fit KX;rintro e w1 ⟨rfl,h1⟩)
      go_roundg (aI.length-(k+1))
      case measure=>omega
      case rel=>exact⟨k+1,f,bn,by omega,by omega,by go_num,rfl,by go_num,o,vi,vm,vt,Ck.below h1,N6,.inr ⟨B7,Dd,Mq.out⟩⟩
     ·
      have b6:(((l.op:Nat):Int)==6)=false:=by rw[jZ];omega
      have b9:(((l.op:Nat):Int)==9)=false:=by rw[jZ];omega
      have b18:(((l.op:Nat):Int)==18)=false:=by rw[jZ];omega
      have b19:(((l.op:Nat):Int)==19)=false:=by rw[jZ];omega
      have b20:(((l.op:Nat):Int)==20)=false:=by rw[jZ];omega
      have b22:(((l.op:Nat):Int)==22)=true:=by rw[beq_iff_eq];omega
      have hlen:l.places.length=1:=by rw[hl.cP,aw];rfl
      obtain⟨g,rfl,ql,hg,c1,c2⟩:=bm MR hlen 0 (by omega);have hx:=(hl.places (l.places.getD 0 (0,0)) (by simp[hlen])).1;have zL:0<q.locals.length:=by omega
      have kb:=HR.out;rw[dZ,ja (by omega),ja (by omega),ja (by omega),jb aw]at kb;have KN:=ei Ck (l.places.getD 0 (0,0)) (by omega);rw[hlen]at Ck MR mx c1 c2 KN;rw[hlen]at k2;have hA:ans=(1,o.num (l.places.getD 0 (0,0)),o.dM q q.locals.length):=(Option.some.inj kb).symm;have HA:Hid (ans=(1,o.num (l.places.getD 0 (0,0)),o.dM q q.locals.length)):=hA;clear hA;have KA:=fun(W:World) (hW:dn w0 (w.heap.size+1) a W o vi vm vt)=>Ga hW ⟨YG.aI,⟨_,YG.locals⟩⟩ zL ic hI (by omega) U5 (by omega)
      have N6:=hI.dM q q.locals.length (by omega);have KR:=fun(n:Int) (W:World) (vm vt:Value) (hW:dn w0 (w.heap.size+1) a W (o.dM q q.locals.length) vi vm vt)=>pV hW.ka 1 n ((N6.sz (by omega)).ok (by omega))
      clear HR kb hlen aw;generalize l.places.getD 0 (0,0)=p0 at*;generalize o.num p0=n0 at*;generalize o.dM q q.locals.length=o2 at*;go_wp2_with (first
       |(go_at_call 58;go_fit KN;rintro e w1 ⟨rfl,h1⟩;have mn:=Ck.below h1)
       |(go_at_call 64;go_fit (KA _ mn);rintro e w2 ⟨rfl,vm2,vt2,iM,r2⟩))
      apply wp_goto
      refine hJ _ _ _ _ rfl ?_;go_wp2_with (go_at_call 66;go_fit (KR _ _ _ _ iM);rintro e wz ⟨rfl,Rm⟩;have xN:=VX.out _ _ iM.bq Rm;have z0:wz.cell? ⟨w.heap.size,0,none⟩=some (.int .i64 0):=(by rw[cell_of_heap xN];rfl);have z1:wz.cell? ⟨w.heap.size,1,none⟩=some (.int .i64 0):=(by rw[cell_of_heap xN];rfl);have z2:wz.cell? ⟨w.heap.size,2,none⟩=some (.string ⟨#[]⟩):=(by rw[cell_of_heap xN];rfl);have z3:wz.cell? ⟨w.heap.size,3,none⟩=some (.int .i64 0):=(by rw[cell_of_heap xN];rfl);have rf:=frozen_of_heap xN;have rf0:=rf 0;have rf1:=rf 1;have rf2:=rf 2;have rf3:=rf 3;clear rf)
      try rw[Exit.noGoto_ret]
      obtain⟨e4,zi⟩:=pU xN (.int .i64 1) (.int .i64 n0) (.string (bs o2.yd.text)) (.int .i64 o2.yd.live);refine bodyPost_ret (dP Tryz.results44 _ _ _ w.heap.size [.int .i64 1,.int .i64 n0,.string (bs o2.yd.text),.int .i64 o2.yd.live] _ rfl (fun j u hu=>by rw[Nat.zero_add,cell_of_heap e4];simpa using hu) Tryz.underlying47 rfl fe) rfl ?_;exact⟨by rw[HA.out];rfl,HB4.out _ _ _ iM.bq Rm zi⟩
   ·have hk:k=aI.length:=by omega
    subst hk;obtain⟨o,vi,vm,vt,hO,hI,zJ⟩:=iq.out;have Rp:b'<q.blocks.length/\Hid (dZ q (room:Nat) f (q.blocks.getD b' []) o=some ans):=by
     rcases zJ with⟨h,-⟩|⟨-,h1,h2⟩
     ·omega
     ·exact⟨h1,h2⟩
    clear iq zJ;go_wp2
    go_roundg (f+1)
    case measure=>omega
    case rel=>exact⟨f,b',rfl,by omega,rfl,rfl,Rp.1,o,vi,vm,vt,hO,hI,Rp.2.out⟩
end
end Own
namespace RunB
open Go Sq Aux Go.Proofs.YtmlgajhhnojdjaaGreatDoor.Own RunA RefM PrjS FlwA FlwI FlwJ FlwK FlwM FlwO FlwP FlwQ FlwS FlwV FlwY FlwZ
def z6:Value:=.agg #[.int .i64 0,.int .i64 0,.string ⟨#[]⟩,.int .i64 0]
def lj (ak:List Int)(fuel room:Int):Prop:=ak.length<=100/\0<=fuel/\fuel<=1000/\0<=room/\room<=50
structure Good (text:B)(q:QP):Prop where
 read:bc text false=(some q,0,0)
 done:∃p E,aJ text false=(some p,0,0)/\lA text p q E/\aB (cU q E) q.blocks.length 0=none
theorem Good.chk {text:B}{q:QP}(h:Good text q):mf text 0 0:=by
 obtain⟨p,E,h1,h2,h3⟩:=h.done;exact .inr ⟨p,q,E,h1,h.read,h2,.inr ⟨h3,rfl,rfl⟩⟩
theorem Good.run {text:B}{q:QP}(h:Good text q){J:List Nat->Own.Own->Prop}(H:Steps q J){ak:List Int}(hJ:J aU (Own.start ak))(room:Int)(f:Nat):∃ans,dZ q room f (q.blocks.getD 0 []) (Own.start ak)=some ans/\WM q J room ans:=by
 obtain⟨p,E,-,h2,h3⟩:=h.done;exact IS h2 h.read h3 H hJ room f
end RunB
namespace RunB
open Go Go.RowKit Sq Aux Go.Proofs.YtmlgajhhnojdjaaGreatDoor.Own RunA RefM PrjG PrjJ PrjK PrjM PrjS PrjW FlwA FlwP FlwQ FlwV FlwY FlwZ FlwZa
def FI (text:B)(ak:List Int)(fuel room:Int)(v:Value)(c k:Int):Prop:=
 (mf text c k/\c≠0/\v=z6)\/(mf text 0 0/\¬lj ak fuel room/\v=z6/\c=6/\k=0)\/
  (lj ak fuel room/\c=0/\k=0/\∃q ans,Good text q/\dZ q room fuel.toNat (q.blocks.getD 0 []) (Own.start ak)=some ans/\v=PD ans)
set_option maxRecDepth 20000 in
theorem Lr (ad:Option Addr)(n c:Nat)(f m r:Int)(w:World):Calls Tryz.prog 43 #[.slice ad n c,.int .i64 f,.int .i64 m,.int .i64 r] w fun e w'=>e=.returned (.bool (decide (n<=100/\0<=f/\f<=m/\0<=r/\r<=50)))/\w'=w:=by
 go_enter Tryz.func43,Tryz.ntmps43
 by_cases h1:n<=100<;>by_cases h2:0<=f<;>by_cases h3:f<=m<;>by_cases h4:0<=r<;>by_cases h5:r<=50
 all_goals
  go_wp2<;>(go_ret;simp[h1,h2,h3,h4,h5])
theorem Yp {q:QP}{l:aa}(hl:kH q l):ROk q l:=⟨rl hl,fun h=>by
 rcases h with e|e
 ·exact rp hl e
 ·obtain⟨e0,e1,-⟩:=ru hl e;rw[e0,e1];rfl⟩
theorem Sr {text:B}{q:QP}(hg:Good text q){z a:Nat}{w:World}(hG:Fy z a w q)(vi:Value)(ak:List Int)(hf:bX w vi ak)(pG:∀n∈ak,aN n)(fuel room:Int)(hm:lj ak fuel room)(qv:Pow w)(oL:11<=w.heap.size):
  Calls Tryz.prog 44 #[.pointer (some ⟨a,0,none⟩),vi,.int .i64 fuel,.int .i64 room] w fun e w'=>(∃ans,e=.returned (PD ans)/\Hid (dZ q room fuel.toNat (q.blocks.getD 0 []) (Own.start ak)=some ans))/\Below w.heap.size w w':=by
 obtain⟨-,h0,h1,h2,h3⟩:=hm;obtain⟨f,rfl⟩:∃f:Nat,fuel=f:=⟨fuel.toNat,by omega⟩;obtain⟨r,rfl⟩:∃r:Nat,room=r:=⟨room.toNat,by omega⟩;obtain⟨p,E,hp,hD,hn⟩:=hg.done;have ic:=hD.both.aV;obtain⟨ans,ha,-⟩:=hg.run (lY ic) (DL q ak) (r:Nat) f;obtain⟨vl,vb,us,vss,hP⟩:=hG.at_;have hS:=tB hg.read;have hq:=hD.both.Yn;refine(Ug hP vi ak hf pG f r (by omega) (by omega) hD.pos hG.blocks ic hq hG.lines (fun j l hl=>Yp ⟨hq.lines _ (lZ hl) l hl,hS.has _ l hl,hS.fits _ l hl⟩) qv oL ha).mono ?_;rintro e w' ⟨rfl,hb⟩;exact⟨⟨ans,rfl,ha⟩,hb⟩
theorem o7 {w1:World}{R:Nat}{u0 u1 u2 u3:Value}(hR:w1.heap[R]?=some (.cells #[u0,u1,u2,u3] 47 (0,0))):w1.cell? ⟨R,0,none⟩=some u0/\w1.cell? ⟨R,1,none⟩=some u1/\w1.cell? ⟨R,2,none⟩=some u2/\w1.cell? ⟨R,3,none⟩=some u3/\
  w1.frozen? ⟨R,0,none⟩=false/\w1.frozen? ⟨R,1,none⟩=false/\w1.frozen? ⟨R,2,none⟩=false/\w1.frozen? ⟨R,3,none⟩=false:=
 ⟨by rw[cell_of_heap hR];rfl,by rw[cell_of_heap hR];rfl,by rw[cell_of_heap hR];rfl,by rw[cell_of_heap hR];rfl,frozen_of_heap hR 0,frozen_of_heap hR 1,frozen_of_heap hR 2,frozen_of_heap hR 3⟩
theorem eJ {w w1:World}{v:Value}{l:List Int}(h:bX w v l){b:Nat}(hb:Below b w w1)(hs:w.heap.size<=b):bX w1 v l:=by
 obtain⟨ad,c,rfl,h1,h2,h3⟩:=h;refine⟨ad,c,rfl,h1,h2,fun j hj=> ?_⟩;obtain⟨g,f,e,hg,hc⟩:=h3 j hj;exact⟨g,f,e,by have:=hb.size;omega,(hb.cell (p:=⟨g,f+j,none⟩) (jK hg hs)).trans hc⟩
theorem rK.mi {text:B}{w w':World}{e:Ending}(h:rK text w e w'):Below w.heap.size w w'/\∃v c k,e=.returned (.tuple #[v,.int .i64 c,.int .i64 k])/\((¬c=0/\mf text c k)\/(c=0/\k=0/\∃q a z,v=.pointer (some ⟨a,0,none⟩)/\Good text q/\Fy z a w' q)):=by
 obtain⟨hb,h|⟨p,q,E,h1,hq,h2,⟨n,h3,rfl⟩|⟨h3,a,z,rfl,-,hG⟩⟩⟩:=h
 ·obtain⟨c,k,h0,h1,rfl⟩:=h;exact⟨hb,_,_,_,rfl,.inl ⟨by omega,.inl ⟨c,k,h0,h1,rfl,rfl⟩⟩⟩
 ·exact⟨hb,_,_,_,rfl,.inl ⟨by decide,.inr ⟨p,q,E,h1,hq,h2,.inl ⟨n,h3,rfl,rfl⟩⟩⟩⟩
 ·exact⟨hb,_,_,_,rfl,.inr ⟨rfl,rfl,q,a,z,rfl,⟨hq,p,E,h1,h2,h3⟩,hG⟩⟩
theorem dY {fn:Func}{p u v:Tmp}{ty:TypeId}(h:fn.results= #[.cell p ty,.tmp u,.tmp v])(tmps:Array Value)(P:Program)(w:World)(b:Nat)(cs:List Value)(d:TypeDesc)(hp:tmps.getD p undef=.pointer (some ⟨b,0,none⟩))
  (hc:w.rangeAt b 0 cs) (hu:P.underlying ty=some d) (hd:d.isRow=true) (hi:(P.info? ty).map (·.size)=some cs.length):(results fn tmps).run P w=.ok (.tuple #[.agg cs.toArray,tmps.getD u undef,tmps.getD v undef]) w:=by
 have:=run_loadVar_mid (P:=P) w b 0 ty cs d hc hu hd hi;rw[Array.getD_eq_getD_getElem?]at hp;unfold results;simp[h,hp,asAddr,this]
set_option maxRecDepth 20000 in
set_option maxHeartbeats 2000000 in
theorem Qn (text:B)(vi:Value)(ak:List Int)(fuel room:Int)(w:World)(hf:bX w vi ak)(pG:∀n∈ak,aN n)(h:text.length<=1048576)(E:Env w)(hp:Pow w):
  Calls Tryz.prog 23 #[.string (bs text),vi,.int .i64 fuel,.int .i64 room] w fun e w'=>(∃v c k,Hid (FI text ak fuel room v c k)/\e=.returned (.tuple #[v,.int .i64 c,.int .i64 k]))/\Below w.heap.size w w':=by
 obtain⟨w0,qS⟩:∃w0,w.alloc (.cells #[.int .i64 0,.int .i64 0,.string ⟨#[]⟩,.int .i64 0] 47)=w0:=⟨_,rfl⟩;have fB:Below w.heap.size w w0:=by rw[<-qS];exact(Below.refl _ _).alloc (jC _) _
 have Oj:w0.heap.size=w.heap.size+1:=by rw[<-qS];simp
 have Xh:w0.heap[w.heap.size]?=some (.cells #[.int .i64 0,.int .i64 0,.string ⟨#[]⟩,.int .i64 0] 47 (0,0)):=by rw[<-qS];exact jD
 have K:=EU text w0 h (E.on fB);go_enter Tryz.func23,Tryz.ntmps23
 go_upto_region 1 with fail
 try rw[qS]
 clear qS;have hR:∀W,Below w0.heap.size w0 W->W.heap[w.heap.size]?=some (.cells #[.int .i64 0,.int .i64 0,.string ⟨#[]⟩,.int .i64 0] 47 (0,0)):=fun W hW=>by rw[hW.block _ (by omega)];exact Xh
 have HR:Hid (∀W,Below w0.heap.size w0 W->W.heap[w.heap.size]?=some (.cells #[.int .i64 0,.int .i64 0,.string ⟨#[]⟩,.int .i64 0] 47 (0,0))):=hR;clear hR Xh;go_upto_region 2 with(go_at_call 38;refine K.mono ?_;rintro e w1 ⟨av,GO⟩;have Ca:Hid (Below w0.heap.size w0 w1):=av;obtain⟨-,v,c,k,rfl,Kj⟩:=rK.mi ⟨av,GO⟩;have HP:Hid _:=Kj;clear GO av Kj)
 rcases HP.out with⟨hc,TW⟩|⟨rfl,rfl,q,a,z,rfl,gW,hG⟩
 ·have cb:(c==0)=false:=by rw[jZ];exact hc
  have HC:Hid (¬c=0/\mf text c k):=⟨hc,TW⟩;clear hc TW HP;have oC:=HR.out w1 Ca.out;obtain⟨d0,d1,d2,d3,f0,f1,f2,f3⟩:=o7 oC;obtain⟨e4,zi⟩:=pU oC (.int .i64 0) (.int .i64 0) (.string ⟨#[]⟩) (.int .i64 0);go_wp2
  refine bodyPost_ret (dY Tryz.results23 _ _ _ w.heap.size [.int .i64 0,.int .i64 0,.string ⟨#[]⟩,.int .i64 0] _ rfl (fun j u hu=>by rw[Nat.zero_add,cell_of_heap e4];simpa using hu) Tryz.underlying47 rfl fe) rfl ?_;refine⟨⟨_,_,_,.inl ⟨HC.out.2,HC.out.1,rfl⟩,rfl⟩,(fB.trans (Ca.out.mono (by omega))).trans zi⟩
 ·clear HP;have qv:=hp.below fB E.size;have XS:=qv.below Ca.out (by have:=E.size;omega);have oL:11<=w1.heap.size:=by have:=E.size;have:=Ca.out.size;omega
  have pF:bX w1 vi ak:=eJ (eJ hf fB (jC _)) Ca.out (jC _);obtain⟨ad,cap,rfl,-⟩:=id hf;have KM:=fun W=>Lr ad ak.length cap fuel 1000 room W
  have HGD:Hid (Good text q):=gW;clear gW;by_cases hm:lj ak fuel room
  ·have hd:decide (ak.length<=100/\0<=fuel/\fuel<=1000/\0<=room/\room<=50)=true:=decide_eq_true hm;simp only[hd]at KM;have KR:=Sr HGD.out hG (.slice ad ak.length cap) ak pF pG fuel room hm XS oL;have HM:Hid (lj ak fuel room):=hm;clear hm hd qv XS hf pF pG hG K;go_wp2_with (first
    |(go_at_call 43;refine(KM _).mono ?_;rintro e w2 ⟨rfl,rfl⟩)
    |(go_at_call 44;refine KR.mono ?_;rintro e w3 ⟨⟨ans,rfl,HA⟩,lI⟩;have hr3:=HR.out w3 (Ca.out.trans (lI.mono Ca.out.size));obtain⟨d0,d1,d2,d3,f0,f1,f2,f3⟩:=o7 hr3;obtain⟨e4,zi⟩:=pU hr3 (.int .i64 ((ans.1:Nat):Int)) (.int .i64 ans.2.1) (.string (bs ans.2.2.yd.text)) (.int .i64 ans.2.2.yd.live);simp only[PD]))
   refine bodyPost_ret (dY Tryz.results23 _ _ _ w.heap.size [.int .i64 ((ans.1:Nat):Int),.int .i64 ans.2.1,.string (bs ans.2.2.yd.text),.int .i64 ans.2.2.yd.live] _ rfl (fun j u hu=>by rw[Nat.zero_add,cell_of_heap e4];simpa using hu) Tryz.underlying47 rfl fe) rfl ?_;refine⟨⟨_,_,_,.inr (.inr ⟨HM.out,rfl,rfl,q,ans,HGD.out,HA.out,rfl⟩),rfl⟩,((fB.trans (Ca.out.mono (by omega))).trans (lI.mono (by have:=Ca.out.size;omega))).trans zi⟩
  ·have hd:decide (ak.length<=100/\0<=fuel/\fuel<=1000/\0<=room/\room<=50)=false:=decide_eq_false hm;simp only[hd]at KM;have HM:Hid (¬lj ak fuel room):=hm;clear hm hd qv XS hf pF pG hG K;have oC:=HR.out w1 Ca.out;obtain⟨d0,d1,d2,d3,f0,f1,f2,f3⟩:=o7 oC;obtain⟨e4,zi⟩:=pU oC (.int .i64 0) (.int .i64 0) (.string ⟨#[]⟩) (.int .i64 0);go_wp2_with (go_at_call 43;refine(KM _).mono ?_;rintro e w2 ⟨rfl,rfl⟩)
   refine bodyPost_ret (dY Tryz.results23 _ _ _ w.heap.size [.int .i64 0,.int .i64 0,.string ⟨#[]⟩,.int .i64 0] _ rfl (fun j u hu=>by rw[Nat.zero_add,cell_of_heap e4];simpa using hu) Tryz.underlying47 rfl fe) rfl ?_;refine⟨⟨_,_,_,.inr (.inl ⟨HGD.out.chk,HM.out,rfl,rfl,rfl⟩),rfl⟩,(fB.trans (Ca.out.mono (by omega))).trans zi⟩
end RunB
end Go.Proofs.YtmlgajhhnojdjaaGreatDoor

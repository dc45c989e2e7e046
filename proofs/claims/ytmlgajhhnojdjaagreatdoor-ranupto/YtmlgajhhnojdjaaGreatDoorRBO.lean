import Derived.Test.YtmlgajhhnojdjaaGreatDoorRBN
namespace Go.Proofs.YtmlgajhhnojdjaaGreatDoor
namespace Own
open Go Go.RowKit Sq Aux PrjJ PrjK PrjL PrjM PrjQ PrjS PrjT FlwA FlwB FlwD FlwE FlwM
attribute [local go_sem ↓] Fq Fp Fu
attribute [local go_sem] Cv Hc Ld EE Hd
def PE (r:Nat×Int×Own):Value:=.agg #[.int .i64 ((r.1:Nat):Int),.int .i64 r.2.1,.string (bs r.2.2.yd.text),.int .i64 r.2.2.yd.live]
theorem QA {z a:Nat}{w0:World}{q:QP}{vl vb:Value}{us:List Value}{vss:List (List (Value×Value))}(h:lE z a w0 q vl vb us vss){b:Nat}(hb:b<q.blocks.length):
  ∃gb cb adk ck,vb=.slice (some ⟨gb,0,none⟩) q.blocks.length cb/\q.blocks.length<=cb/\(∀W,Below w0.heap.size w0 W->W.cell? ⟨gb,b,none⟩=some (.slice adk (q.blocks.getD b []).length ck))/\fi z w0 (.slice adk (q.blocks.getD b []).length ck) (q.blocks.getD b []) (vss.getD b []):=by
 obtain⟨gb,cb,adk,ck,e,FC,Rx,aD,hus⟩:=pw h b hb;refine⟨gb,cb,adk,ck,e,FC,fun W hW=>(hW.cell (p:=⟨gb,b,none⟩) Rx).trans aD,?_⟩;have h1:=h.each b hb;rw[hus]at h1;exact h1
theorem Vm {z:Nat}{w0:World}{ad:Option Addr}{n c:Nat}{ls:List ab}{vs:List (Value×Value)}(h:fi z w0 (.slice ad n c) ls vs){j:Nat}(hj:j<ls.length):
  ∃g ap cp an cn,ad=some ⟨g,0,none⟩/\n=ls.length/\ls.length<=c/\∀W,Below w0.heap.size w0 W->(W.cell? ⟨g,j*6,none⟩=some (.int .i64 ((ls.getD j ab.nil).num:Nat))/\W.cell? ⟨g,j*6+1,none⟩=some (.int .i64 ((ls.getD j ab.nil).op:Nat))/\W.cell? ⟨g,j*6+2,none⟩=some (.slice ap (ls.getD j ab.nil).places.length cp)/\
   W.cell? ⟨g,j*6+3,none⟩=some (.int .i64 (ls.getD j ab.nil).number)/\W.cell? ⟨g,j*6+4,none⟩=some (.int .i64 (ls.getD j ab.nil).flag)/\W.cell? ⟨g,j*6+5,none⟩=some (.slice an (ls.getD j ab.nil).next.length cn))/\
   bq z W (ls.getD j ab.nil) (.slice ap (ls.getD j ab.nil).places.length cp) (.slice an (ls.getD j ab.nil).next.length cn):=by
 obtain⟨g,ap,cp,an,cn,e,hn,hc,hg,k0,k1,k2,k3,k4,k5,X9⟩:=pr h j hj;refine⟨g,ap,cp,an,cn,e,hn,hc,fun W hW=>⟨⟨(hW.cell (p:=⟨g,j*6,none⟩) hg).trans k0,(hW.cell (p:=⟨g,j*6+1,none⟩) hg).trans k1,(hW.cell (p:=⟨g,j*6+2,none⟩) hg).trans k2,(hW.cell (p:=⟨g,j*6+3,none⟩) hg).trans k3,(hW.cell (p:=⟨g,j*6+4,none⟩) hg).trans k4,(hW.cell (p:=⟨g,j*6+5,none⟩) hg).trans k5⟩,?_⟩⟩;have h1:=h.each j hj;rw[X9]at h1;exact bq.below h1 hW
structure ROk (q:QP)(l:ab):Prop where
 op:ko l.op\/l.op=6\/l.op=9\/l.op=18\/l.op=19\/l.op=20\/l.op=22
 hl:l.op=12\/l.op=14->(QP.ae q (ai l 0)).length=(QP.ae q (ai l 1)).length
theorem O9 {w:World}{a:Nat}{vi:Value}{al:List Int}(hf:bY w vi al)(u v:Value):dp w w.heap.size a ((w.alloc (.cells (bM u v).toArray 104)).setCells w.heap.size 0 (bM (.pointer (some ⟨a,0,none⟩)) vi)) (Own.start al) vi (.slice none 0 0) (.slice none 0 0):=by
 obtain⟨h1,h2⟩:=ET w u v (.pointer (some ⟨a,0,none⟩)) vi;exact⟨⟨jC _,.inl rfl,h1,World.ownsRow_nil _ _ _ _,World.ownsRow_nil _ _ _ _⟩,h2,by simp[Own.start],by simp[Own.start],hf⟩
theorem pV {w1:World}{R:Nat}{u0 u1 u2 u3:Value}(hR:w1.heap[R]?=some (.cells #[u0,u1,u2,u3] 47 (0,0)))(v0 v1 v2 v3:Value):
  ((((w1.setCell ⟨R,0,none⟩ v0).setCell ⟨R,1,none⟩ v1).setCell ⟨R,2,none⟩ v2).setCell ⟨R,3,none⟩ v3).heap[R]?=some (.cells #[v0,v1,v2,v3] 47 (0,0))/\Below R w1 ((((w1.setCell ⟨R,0,none⟩ v0).setCell ⟨R,1,none⟩ v1).setCell ⟨R,2,none⟩ v2).setCell ⟨R,3,none⟩ v3):=by
 have e1:=Aux.heap_setCell_same hR 0 v0;have e2:=Aux.heap_setCell_same e1 1 v1;have e3:=Aux.heap_setCell_same e2 2 v2;have e4:=Aux.heap_setCell_same e3 3 v3;have hT:=((((bw.refl R w1).setCell 0 v0).setCell 1 v1).setCell 2 v2).setCell 3 v3;exact⟨e4,hT.below (jC _) (Nat.le_of_lt (lt_of_heap hR))⟩
section
variable {a:Nat} {w:World} {q:QP}
set_option maxRecDepth 20000 in
set_option maxHeartbeats 8000000 in
theorem Uh {z:Nat}{vl vb:Value}{us:List Value}{vss:List (List (Value×Value))}(h:lE z a w q vl vb us vss)(vi:Value)(al:List Int)(hf:bY w vi al)(pH:∀n∈al,aO n)(fuel room:Nat)(hfu:fuel<=1000)(_hro:room<=50)
  (fC:0<q.blocks.length) (_hn:q.blocks.length<=4000) (ie:q.locals.length<=12) (hq:Jy q.blocks.length q) (eY:∀j,(q.blocks.getD j []).length<=4000) (hrok:∀j,∀l∈q.blocks.getD j [],ROk q l) (qw:Pow w) (oM:11<=w.heap.size)
  {ans:Nat×Int×Own} (UF:ea q (room:Nat) fuel (q.blocks.getD 0 []) (Own.start al)=some ans):
  Calls Tryz.prog 44 #[.pointer (some ⟨a,0,none⟩),vi,.int .i64 (fuel:Nat),.int .i64 (room:Nat)] w fun e w'=>e=.returned (PE ans)/\Below w.heap.size w w':=by
 obtain⟨w0,qT⟩:∃w0,w.alloc (.cells #[.int .i64 0,.int .i64 0,.string ⟨#[]⟩,.int .i64 0] 47)=w0:=⟨_,rfl⟩;have UI:Below w.heap.size w w0:=by rw[<-qT];exact(Below.refl _ _).alloc (jC _) _
 have Ol:w0.heap.size=w.heap.size+1:=by rw[<-qT];simp
 have Xi:w0.heap[w.heap.size]?=some (.cells #[.int .i64 0,.int .i64 0,.string ⟨#[]⟩,.int .i64 0] 47 (0,0)):=by rw[<-qT];exact jD
 have YH:=h.below UI;have U6:=qw.below UI oM;have Od:bY w0 vi al:=by
  obtain⟨ad,c,rfl,h1,h2,h3⟩:=hf;refine⟨ad,c,rfl,h1,h2,fun j hj=> ?_⟩;obtain⟨g,f,e,hg,hc⟩:=h3 j hj;exact⟨g,f,e,by omega,(UI.cell (p:=⟨g,f+j,none⟩) hg).trans hc⟩
 have V8:=O9 (a:=a) Od (.pointer none) (.slice none 0 0);have oP:=IQ w0 (.pointer none) (.slice none 0 0);have hH:Hid (ea q (room:Nat) fuel (q.blocks.getD 0 []) (Own.start al)=some ans):=UF;obtain⟨ad,c,rfl,-⟩:=hf;clear UF h qw;rw[Ol]at V8 oP;go_enter Tryz.func44,Tryz.ntmps44
 go_wp2
 try rw[qT]
 refine Jk ?_;intro J hJ;go_upto_region 2 with fail
 clear oP qT Od;generalize ((w0.alloc (Obj.cells (bM (Value.pointer none) (Value.slice none 0 0)).toArray 104)).setCells (w.heap.size+1) 0 (bM (Value.pointer (some {block:=a,off:=0})) (Value.slice ad al.length c)))=W0 at*;have Rd:=(Own.In.start pH).mono (jQ (3*(1000-fuel)));have ir:Hid (∃o vi vm vt,dp w0 (w.heap.size+1) a W0 o vi vm vt/\o.In (3*(1000-fuel))/\ea q (room:Nat) fuel (q.blocks.getD 0 []) o=some ans):=⟨_,_,_,_,V8,Rd,hH.out⟩;clear V8 Rd hH;go_wp2
 go_loopg [2,11] (fuel+1) (fun g v2 v11 wr=>∃(f b:Nat),g=f+1/\f<=1000/\v2=.int .i64 f/\v11=.int .i64 b/\b<q.blocks.length/\Hid (∃o vi vm vt,dp w0 (w.heap.size+1) a wr o vi vm vt/\o.In (3*(1000-f))/\ea q (room:Nat) f (q.blocks.getD b []) o=some ans))
 case atStart=>exact⟨fuel,0,rfl,hfu,rfl,rfl,fC,ir⟩
 case round=>
  obtain⟨f0,b,hg,Od,rfl,rfl,hb,ir⟩:=hrel;obtain⟨gb,cb,adk,ck,rfl,FC,hbc,Zo⟩:=QA YH hb;have TV:(b:Int)<(q.blocks.length:Nat):=by omega
  have hold:Below w0.heap.size w0 wr:=by obtain⟨o,vi,vm,vt,h1,-⟩:=ir.out;exact h1.br
  obtain⟨p0,p1,-,-⟩:=lE.facts (YH.below hold);have aD:=hbc wr hold;have la:=eY b;have cf:∀l∈q.blocks.getD b [],tS q.locals.length q.blocks.length l:=hq.lines _ (by simp[hb]);have hrk:∀l∈q.blocks.getD b [],ROk q l:=hrok b;generalize bV:q.blocks.getD b []=aJ at*;clear bV hbc;generalize vss.getD b []=vsj at*;have ec:0<aJ.length:=by
   obtain⟨o,vi,vm,vt,-,-,h3⟩:=ir.out;cases aJ with
   |nil=>cases f0<;>simp[ea]at h3
   |cons _ _=>simp
  have HD:Hid (∀k,k<aJ.length->aJ.drop k=aJ.getD k ab.nil::aJ.drop (k+1)):=fun k hk=>by rw[jE hk];simp[hk]
  have VY:Hid (∀W W',Below w0.heap.size w0 W->Below W.heap.size W W'->W'.heap[w.heap.size]?=some (.cells #[.int .i64 0,.int .i64 0,.string ⟨#[]⟩,.int .i64 0] 47 (0,0))):=fun W W' h1 h2=>by
   have hs:=h1.size;rw[h2.block _ (by omega),h1.block _ (by omega)];exact Xi
  go_wp2
  go_loopg [2,11,26] (aJ.length) (fun g v2 v11 v26 wn=>∃(k f b':Nat),g+k=aJ.length/\f+k=f0/\v2=.int .i64 f/\v11=.int .i64 b'/\v26=.int .i64 k/\Hid (∃o vi vm vt,dp w0 (w.heap.size+1) a wn o vi vm vt/\o.In (3*(1000-f))/\((k<aJ.length/\ea q (room:Nat) f (aJ.drop k) o=some ans)\/(k=aJ.length/\b'<q.blocks.length/\ea q (room:Nat) f (q.blocks.getD b' []) o=some ans))))
  case atStart=>
   obtain⟨o,vi,vm,vt,h1,h2,h3⟩:=ir.out;exact⟨0,f0,b,rfl,rfl,rfl,rfl,rfl,o,vi,vm,vt,h1,h2,.inl ⟨ec,h3⟩⟩
  case round=>
   obtain⟨k,f,b',GI,hfk,rfl,rfl,rfl,ir⟩:=hrel;clear p0 p1 aD hold;by_cases hk:k<aJ.length
   ·obtain⟨o,vi,vm,vt,hO,hI,zK⟩:=ir.out;have HR:Hid (ea q (room:Nat) f (aJ.getD k ab.nil::aJ.drop (k+1)) o=some ans):=by
     rcases zK with⟨-,h⟩|⟨h,-⟩
     ·rw[HD.out k hk]at h;exact h
     ·omega
    clear zK ir;obtain⟨gl,apl,cp,an,cn,rfl,-,AW,HL⟩:=Vm Zo hk;have xU:aJ.getD k ab.nil∈aJ:=by simp[hk]
    have hl:=cf _ xU;have hr:=hrk _ xU;have hki:(k:Int)<(aJ.length:Nat):=by omega
    generalize aJ.getD k ab.nil=l at*;obtain⟨k0,k1,k2,k3,k4,k5⟩:=(HL _ hO.br).1;have zJ:Below wr.heap.size wr (wr.alloc (.cells #[.int .i64 (l.num:Nat),.int .i64 (l.op:Nat),.slice apl l.places.length cp,.int .i64 l.number,.int .i64 l.flag,.slice an l.next.length cn] 115)):=(Below.refl _ _).alloc (jC _) _;have Cl:=hO.below zJ;have MS:=(HL _ Cl.br).2;have my:(wr.alloc (.cells #[.int .i64 (l.num:Nat),.int .i64 (l.op:Nat),.slice apl l.places.length cp,.int .i64 l.number,.int .i64 l.flag,.slice an l.next.length cn] 115)).heap[wr.heap.size]?=some (.cells #[.int .i64 (l.num:Nat),.int .i64 (l.op:Nat),.slice apl l.places.length cp,.int .i64 l.number,.int .i64 l.flag,.slice an l.next.length cn] 115 (0,0)):=jD;clear xU zJ;have HB4:Hid (∀W W' W'',Below w0.heap.size w0 W->Below W.heap.size W W'->Below w.heap.size W' W''->Below w.heap.size w W''):=fun W W' W'' h1 h2 h3=>by
     have:=h1.size;exact UI.trans (((h1.mono (by omega)).trans (h2.mono (by omega))).trans h3)
    cases f with
    |zero=>
     have hA:ans=(2,0,o):=by have:=HR.out;rw[ea]at this;exact(Option.some.inj this).symm
     have KR:=fun(W:World) (hW:dp w0 (w.heap.size+1) a W o vi vm vt)=>pW hW.kb 2 0 ((hI.sz (by omega)).ok (by omega))
     subst hA;go_wp2
     apply wp_goto
     refine hJ _ _ _ _ rfl ?_;go_wp2_with (go_at_call 66;go_fit (KR _ Cl);rintro e wz ⟨rfl,Rn⟩;have xO:=VY.out _ _ Cl.br Rn;have z0:wz.cell? ⟨w.heap.size,0,none⟩=some (.int .i64 0):=(by rw[cell_of_heap xO];rfl);have z1:wz.cell? ⟨w.heap.size,1,none⟩=some (.int .i64 0):=(by rw[cell_of_heap xO];rfl);have z2:wz.cell? ⟨w.heap.size,2,none⟩=some (.string ⟨#[]⟩):=(by rw[cell_of_heap xO];rfl);have z3:wz.cell? ⟨w.heap.size,3,none⟩=some (.int .i64 0):=(by rw[cell_of_heap xO];rfl);have rf:=frozen_of_heap xO;have rf0:=rf 0;have rf1:=rf 1;have rf2:=rf 2;have rf3:=rf 3;clear rf)
     try rw[Exit.noGoto_ret]
     obtain⟨e4,zj⟩:=pV xO (.int .i64 2) (.int .i64 0) (.string (bs o.yd.text)) (.int .i64 o.yd.live);refine bodyPost_ret (dQ Tryz.results44 _ _ _ w.heap.size [.int .i64 2,.int .i64 0,.string (bs o.yd.text),.int .i64 o.yd.live] _ rfl (fun j u hu=>by rw[Nat.zero_add,cell_of_heap e4];simpa using hu) Tryz.underlying47 rfl ff) rfl ?_;exact⟨rfl,HB4.out _ _ _ Cl.br Rn zj⟩
    |succ f=>
     have hF0:(((f+1:Nat):Int)==0)=false:=by rw[jZ];omega
     have HN:Hid (∀o',ea q (room:Nat) f (aJ.drop (k+1)) o'=some ans->k+1<aJ.length):=fun o' h=>by
      by_cases aL:k+1<aJ.length
      ·exact aL
      ·rw[jT (by omega)]at h;cases f<;>simp[ea]at h
     rcases hr.op with FE|ax|ax|ax|ax|ax|ax
     ·
      have ec:l.op≠6/\l.op≠9/\l.op≠18/\l.op≠19/\l.op≠20/\l.op≠22:=by unfold ko at FE;omega
      have b6:(((l.op:Nat):Int)==6)=false:=by rw[jZ];omega
      have b9:(((l.op:Nat):Int)==9)=false:=by rw[jZ];omega
      have b18:(((l.op:Nat):Int)==18)=false:=by rw[jZ];omega
      have b19:(((l.op:Nat):Int)==19)=false:=by rw[jZ];omega
      have b20:(((l.op:Nat):Int)==20)=false:=by rw[jZ];omega
      have b22:(((l.op:Nat):Int)==22)=false:=by rw[jZ];omega
      have kd:=HR.out;rw[ea,ja ec.1,ja ec.2.1,ja (by omega),ja ec.2.2.2.2.2]at kd;have sK:o.bE l=true:=by
       cases hv:o.bE l with
       |true=>rfl
       |false=>rw[hv,ja (by decide)]at kd;cases kd
      rw[jb sK]at kd;have Mr:Hid (ea q (room:Nat) f (aJ.drop (k+1)) (o.fz q l)=some ans):=kd;have N7:=(hI.fz (by omega) q l (by have:=hl.number;unfold aO;omega)).mono (show 3*(1000-(f+1))+3<=3*(1000-f) by omega);have KD:=W7 Cl MS hl ie FE hI (by omega) sK ⟨YH.aJ,⟨_,YH.locals⟩⟩ hr.hl U6 (by omega);clear HR kd sK ec FE;generalize o.fz q l=o2 at*;go_wp2_with (go_at_call 65;go_fit KD;rintro e w1 ⟨rfl,vi2,vm2,vt2,iN,r2⟩)
      go_roundg (aJ.length-(k+1))
      case measure=>omega
      case rel=>exact⟨k+1,f,b',by omega,by omega,by go_num,rfl,by go_num,o2,vi2,vm2,vt2,iN,N7,.inl ⟨HN.out _ Mr.out,Mr.out⟩⟩
     ·
      have b6:(((l.op:Nat):Int)==6)=true:=by rw[beq_iff_eq];omega
      have b9:(((l.op:Nat):Int)==9)=false:=by rw[jZ];omega
      have b18:(((l.op:Nat):Int)==18)=false:=by rw[jZ];omega
      have b19:(((l.op:Nat):Int)==19)=false:=by rw[jZ];omega
      have b20:(((l.op:Nat):Int)==20)=false:=by rw[jZ];omega
      have b22:(((l.op:Nat):Int)==22)=false:=by rw[jZ];omega
      have hlen:l.places.length=3:=by rw[hl.cQ,ax];rfl
      obtain⟨g,rfl,qm,hg,c1,c2⟩:=bo MS hlen 2 (by omega);have hx:=(hl.places (l.places.getD 2 (0,0)) (by simp[hlen])).1;have kd:=HR.out;rw[ea,jb ax]at kd;have KC:=fun(W:World) (hb:Below (wr.alloc (.cells #[.int .i64 (l.num:Nat),.int .i64 (l.op:Nat),.slice (some ⟨g,0,none⟩) l.places.length cp,.int .i64 l.number,.int .i64 l.flag,.slice an l.next.length cn] 115)).heap.size (wr.alloc (.cells #[.int .i64 (l.num:Nat),.int .i64 (l.op:Nat),.slice (some ⟨g,0,none⟩) l.places.length cp,.int .i64 l.number,.int .i64 l.flag,.slice an l.next.length cn] 115)) W) (hz:¬o.num (ai l 2)=0)=>sD (Cl.below hb) (bq.below MS hb) hl ie (.inr (.inr (.inr ax))) (fun _=>hz) hI.rk
      have hC:Hid (({o with ints:=o.ints.set (ab.pl l 0).1 (vf l.op (o.num (ab.pl l 1)) (o.num (ab.pl l 2)))}:Own)=o.calc l):=rfl;rw[hC.out]at KC;have KN:=ej Cl (l.places.getD 2 (0,0)) (by omega);have N7:(o.calc l).In (3*(1000-f)):=(hI.setInt _ (Ar _ _ _)).mono (show 3*(1000-(f+1))<=3*(1000-f) by omega);rw[hlen]at Cl MS my c1 c2 KC KN;rw[hlen]at k2;have gM:ai l 2=l.places.getD 2 (0,0):=rfl;rw[gM]at kd KC;clear gM hC;generalize l.places.getD 2 (0,0)=p2 at*;by_cases hz:o.num p2=0
      ·have hzb:(o.num p2==0)=true:=by rw[hz];rfl
       rw[jb hz]at kd;have hA:ans=(4,0,o):=(Option.some.inj kd).symm;subst hA;have KR:=fun(W:World) (hW:dp w0 (w.heap.size+1) a W o vi vm vt)=>pW hW.kb 4 0 ((hI.sz (by omega)).ok (by omega))
       clear HR kd hz KC hlen ax;generalize o.num p2=n2 at*;go_wp2_with (go_at_call 58;go_fit KN;rintro e w1 ⟨rfl,h1⟩;have mo:=Cl.below h1)
       apply wp_goto
       refine hJ _ _ _ _ rfl ?_;go_wp2_with (go_at_call 66;go_fit (KR _ mo);rintro e wz ⟨rfl,Rn⟩;have xO:=VY.out _ _ mo.br Rn;have z0:wz.cell? ⟨w.heap.size,0,none⟩=some (.int .i64 0):=(by rw[cell_of_heap xO];rfl);have z1:wz.cell? ⟨w.heap.size,1,none⟩=some (.int .i64 0):=(by rw[cell_of_heap xO];rfl);have z2:wz.cell? ⟨w.heap.size,2,none⟩=some (.string ⟨#[]⟩):=(by rw[cell_of_heap xO];rfl);have z3:wz.cell? ⟨w.heap.size,3,none⟩=some (.int .i64 0):=(by rw[cell_of_heap xO];rfl);have rf:=frozen_of_heap xO;have rf0:=rf 0;have rf1:=rf 1;have rf2:=rf 2;have rf3:=rf 3;clear rf)
       try rw[Exit.noGoto_ret]
       obtain⟨e4,zj⟩:=pV xO (.int .i64 4) (.int .i64 0) (.string (bs o.yd.text)) (.int .i64 o.yd.live);refine bodyPost_ret (dQ Tryz.results44 _ _ _ w.heap.size [.int .i64 4,.int .i64 0,.string (bs o.yd.text),.int .i64 o.yd.live] _ rfl (fun j u hu=>by rw[Nat.zero_add,cell_of_heap e4];simpa using hu) Tryz.underlying47 rfl ff) rfl ?_;exact⟨rfl,HB4.out _ _ _ mo.br Rn zj⟩
      ·have hzb:(o.num p2==0)=false:=by rw[jZ];exact hz
       rw[ja hz]at kd;have Mr:Hid (ea q (room:Nat) f (aJ.drop (k+1)) (o.calc l)=some ans):=kd;have KC2:=fun W hb=>KC W hb hz
       clear HR kd hz KC hlen ax;generalize o.num p2=n2 at*;generalize o.calc l=o2 at*;go_wp2_with (first
        |(go_at_call 58;go_fit KN;rintro e w1 ⟨rfl,h1⟩;have mx:=(h1.block _ (lt_of_heap my)).trans my;have m0:w1.cell? ⟨wr.heap.size,0,none⟩=_:=cell_of_heap mx 0;have m1:w1.cell? ⟨wr.heap.size,1,none⟩=_:=cell_of_heap mx 1;have m2:w1.cell? ⟨wr.heap.size,2,none⟩=_:=cell_of_heap mx 2;have m3:w1.cell? ⟨wr.heap.size,3,none⟩=_:=cell_of_heap mx 3;have m4:w1.cell? ⟨wr.heap.size,4,none⟩=_:=cell_of_heap mx 4;have m5:w1.cell? ⟨wr.heap.size,5,none⟩=_:=cell_of_heap mx 5;simp at m0 m1 m2 m3 m4 m5)
        |(go_at_call 59;go_fit (KC2 _ h1);rintro e w2 ⟨rfl,iN,r2⟩))
       go_roundg (aJ.length-(k+1))
       case measure=>omega
       case rel=>exact⟨k+1,f,b',by omega,by omega,by go_num,rfl,by go_num,o2,vi,vm,vt,iN,N7,.inl ⟨HN.out _ Mr.out,Mr.out⟩⟩
     ·
      have b6:(((l.op:Nat):Int)==6)=false:=by rw[jZ];omega
      have b9:(((l.op:Nat):Int)==9)=true:=by rw[beq_iff_eq];omega
      have b18:(((l.op:Nat):Int)==18)=false:=by rw[jZ];omega
      have b19:(((l.op:Nat):Int)==19)=false:=by rw[jZ];omega
      have b20:(((l.op:Nat):Int)==20)=false:=by rw[jZ];omega
      have b22:(((l.op:Nat):Int)==22)=false:=by rw[jZ];omega
      have hlen:l.places.length=2:=by rw[hl.cQ,ax];rfl
      obtain⟨g,rfl,qm,hg,-,-⟩:=bo MS hlen 0 (by omega);have Jv:=(hl.places (l.places.getD 0 (0,0)) (by simp[hlen])).1;have zo:=(hl.places (l.places.getD 1 (0,0)) (by simp[hlen])).1;have PC:Hid (∀W,Below w0.heap.size w0 W->W.cell? ⟨g,0,none⟩=some (.int .i64 ((l.places.getD 0 (0,0)).1:Nat))/\W.cell? ⟨g,1,none⟩=some (.int .i64 ((l.places.getD 0 (0,0)).2:Nat))/\W.cell? ⟨g,2,none⟩=some (.int .i64 ((l.places.getD 1 (0,0)).1:Nat))/\W.cell? ⟨g,3,none⟩=some (.int .i64 ((l.places.getD 1 (0,0)).2:Nat))):=fun W hW=>by
       have hp:=(HL W hW).2.places;exact⟨(bC hp (j:=0) (by omega)).1,(bC hp (j:=0) (by omega)).2,(bC hp (j:=1) (by omega)).1,(bC hp (j:=1) (by omega)).2⟩
      have kd:=HR.out;rw[ea,ja (by omega),jb ax]at kd;have e0:ai l 0=l.places.getD 0 (0,0):=rfl;have e1:ai l 1=l.places.getD 1 (0,0):=rfl;rw[e0,e1]at kd;obtain⟨c0,c1,c2,c3⟩:=PC.out _ Cl.br;rw[hlen]at Cl MS my c0 c1 c2 c3;rw[hlen]at k2;clear e0 e1 HR ax;generalize l.places.getD 0 (0,0)=p0 at*;generalize l.places.getD 1 (0,0)=p1 at*;have TU:Below (wr.alloc (.cells #[.int .i64 (l.num:Nat),.int .i64 (l.op:Nat),.slice (some ⟨g,0,none⟩) 2 cp,.int .i64 l.number,.int .i64 l.flag,.slice an l.next.length cn] 115)).heap.size (wr.alloc (.cells #[.int .i64 (l.num:Nat),.int .i64 (l.op:Nat),.slice (some ⟨g,0,none⟩) 2 cp,.int .i64 l.number,.int .i64 l.flag,.slice an l.next.length cn] 115)) ((wr.alloc (.cells #[.int .i64 (l.num:Nat),.int .i64 (l.op:Nat),.slice (some ⟨g,0,none⟩) 2 cp,.int .i64 l.number,.int .i64 l.flag,.slice an l.next.length cn] 115)).alloc (.cells #[.int .i64 (p0.1:Nat),.int .i64 (p0.2:Nat)] 119)):=(Below.refl _ _).alloc (jC _) _;have hOP:=Cl.below TU;have KD:=fY hOP (iI (wr.alloc (.cells #[.int .i64 (l.num:Nat),.int .i64 (l.op:Nat),.slice (some ⟨g,0,none⟩) 2 cp,.int .i64 l.number,.int .i64 l.flag,.slice an l.next.length cn] 115)) p0 (n:=wr.heap.size+1) (by simp)) (fun y hy=>by simp only[List.mem_singleton]at hy;subst hy;omega) (by simp) hI.bx (hI.sz (by omega)) (by simp;omega) U6 (by omega);have TR:=hI.drop [p0] (by simp;omega);have RH:(o.drop [p0]).num p1=o.num p1:=by unfold Own.num;rw[(im [p0] o).2.1]
      have Zb:Hid (o.num p1=(o.drop [p0]).num p1):=RH.symm;rw[Zb.out]at kd;clear hlen RH Zb;generalize o.drop [p0]=o1 at*;by_cases P8:o1.yd.live≥(room:Nat)
      ·rw[jb P8]at kd;have hA:ans=(3,0,o1):=(Option.some.inj kd).symm;subst hA;have KR:=fun(W:World) (vm vt:Value) (hW:dp w0 (w.heap.size+1) a W o1 vi vm vt)=>pW hW.kb 3 0 ((TR.sz (by simp;omega)).ok (by simp;omega))
       have Wf:decide ((room:Int)<=o1.yd.live)=true:=decide_eq_true P8;clear kd;go_wp2_with (go_at_call 60;go_fit KD;rintro e w2 ⟨rfl,vm2,vt2,iN,r2⟩;obtain⟨f0,f1,f2,-⟩:=iN.kb.facts)
       apply wp_goto
       refine hJ _ _ _ _ rfl ?_;go_wp2_with (go_at_call 66;go_fit (KR _ _ _ iN);rintro e wz ⟨rfl,Rn⟩;have xO:=VY.out _ _ iN.br Rn;have z0:wz.cell? ⟨w.heap.size,0,none⟩=some (.int .i64 0):=(by rw[cell_of_heap xO];rfl);have z1:wz.cell? ⟨w.heap.size,1,none⟩=some (.int .i64 0):=(by rw[cell_of_heap xO];rfl);have z2:wz.cell? ⟨w.heap.size,2,none⟩=some (.string ⟨#[]⟩):=(by rw[cell_of_heap xO];rfl);have z3:wz.cell? ⟨w.heap.size,3,none⟩=some (.int .i64 0):=(by rw[cell_of_heap xO];rfl);have rf:=frozen_of_heap xO;have rf0:=rf 0;have rf1:=rf 1;have rf2:=rf 2;have rf3:=rf 3;clear rf)
       try rw[Exit.noGoto_ret]
       obtain⟨e4,zj⟩:=pV xO (.int .i64 3) (.int .i64 0) (.string (bs o1.yd.text)) (.int .i64 o1.yd.live);refine bodyPost_ret (dQ Tryz.results44 _ _ _ w.heap.size [.int .i64 3,.int .i64 0,.string (bs o1.yd.text),.int .i64 o1.yd.live] _ rfl (fun j u hu=>by rw[Nat.zero_add,cell_of_heap e4];simpa using hu) Tryz.underlying47 rfl ff) rfl ?_;exact⟨rfl,HB4.out _ _ _ iN.br Rn zj⟩
      ·rw[ja P8]at kd;have Mr:Hid (ea q (room:Nat) f (aJ.drop (k+1)) (o1.new p0 (o1.num p1))=some ans):=kd;have N7:=(TR.new (by simp;omega) p0 (TR.num p1)).mono (show 3*(1000-(f+1))+[p0].length+1<=3*(1000-f) by simp;omega);have Wf:decide ((room:Int)<=o1.yd.live)=false:=decide_eq_false P8;have hfl':o1.yd.live<(room:Int):=by omega
       clear kd P8;have GN:o1.yd.Ok:=(TR.sz (by simp;omega)).ok (by simp;omega);go_upto_region 18 with(go_at_call 60;go_fit KD;rintro e w2 ⟨rfl,vm2,vt2,iN,r2⟩;obtain⟨f0,f1,f2,-⟩:=iN.kb.facts)
       have Xh:=iN.drew;have hr0:aN (w.heap.size+1) vm2 vt2 w2 vm2 vt2 w2.drew:=aN.of (jh w2);obtain⟨d0,d1,d2,d3⟩:=PC.out _ iN.br;have yV:ah p0<24:=by unfold ah;split<;>omega
       have RQ:(ah p0:Int)<24:=by omega
       have Kp:aO (o1.num p1):=TR.num p1;have KS:=fun(W:World)=>kU p0 W (by omega)
       have KN:=fun(W:World) (hW:dp w0 (w.heap.size+1) a W o1 vi vm2 vt2)=>ej hW p1 (by omega)
       have KB:=fun(W:World) (hW:dp w0 (w.heap.size+1) a W o1 vi vm2 vt2)=>NJ hW.kb (o1.num p1) (U6.below hW.br (by omega)) GN (by omega)
       have hgx:g≠w.heap.size+1:=fun e=>by
        have h1:=iN.kb.aJ;rw[<-e]at h1;exact au (HL _ iN.br).2.places h1 (by decide) rfl
       have Y0:w.heap.size+1≠g:=fun e=>hgx e.symm
       have hE:Hid (({o1 with yd:=o1.yd.build (o1.num p1),boxes:=o1.boxes.set (ah p0) (o1.yd.made.length+1)}:Own)=o1.new p0 (o1.num p1)):=rfl;clear KD GN;generalize o1.num p1=n1 at*;generalize ah p0=sl at*;go_region_held3 (fun W=>W.cell? ⟨g,0,none⟩=some (.int .i64 (p0.1:Nat))/\W.cell? ⟨g,1,none⟩=some (.int .i64 (p0.2:Nat))/\W.cell? ⟨g,2,none⟩=some (.int .i64 (p1.1:Nat))/\W.cell? ⟨g,3,none⟩=some (.int .i64 (p1.2:Nat))) (go_keep)
        (first
        |(go_at_call 62;go_fit (KS wB);rintro e w6 ⟨rfl,h6⟩;have hF2:=hF.below h6;have rF2:=rF.trans (aN.of h6);obtain⟨x0,x1,x2,x3⟩:=PC.out _ hF2.br;obtain⟨i1,i2⟩:=hF2.bx (j:=sl) yV;have hZ:=hF2;have rZ:=rF2)
        |(go_at_call 62;go_fit (KS wN);rintro e w5 ⟨rfl,h5⟩;have Zs:=hON.below h5;have rC:=rN.trans (aN.of h5);obtain⟨x0,x1,x2,x3⟩:=PC.out _ Zs.br)
        |(go_at_call 62;go_fit (KS w2.drew);rintro e wS ⟨rfl,h5⟩;have hOS:=Xh.below h5;have rS:=hr0.trans (aN.of h5);obtain⟨x0,x1,x2,x3⟩:=PC.out _ hOS.br)
        |(go_at_call 58;go_fit (KN _ hOS);rintro e w4 ⟨rfl,h4⟩;have Zs:=hOS.below h4;have rC:=rS.trans (aN.of h4);obtain⟨y0,y1,y2,y3⟩:=PC.out _ Zs.br)
        |(go_at_call 58;go_fit (KN _ Xh);rintro e wN ⟨rfl,h4⟩;have hON:=Xh.below h4;have rN:=hr0.trans (aN.of h4);obtain⟨y0,y1,y2,y3⟩:=PC.out _ hON.br)
        |(go_at_call 61;go_fit (KB _ Zs);rintro e wC ⟨rfl,vm3,vt3,hy3,r3⟩;have hZ:=Zs.zv hy3 r3;have rZ:=rC.trans r3;obtain⟨z0,z1,z2,z3⟩:=PC.out _ hZ.br;obtain⟨i1,i2⟩:=hZ.bx (j:=sl) yV)
        |(go_at_call 61;go_fit (KB _ hON);rintro e wB ⟨rfl,vm3,vt3,hy3,r3⟩;have hF:=hON.zv hy3 r3;have rF:=rN.trans r3;obtain⟨z0,z1,z2,z3⟩:=PC.out _ hF.br;obtain⟨i1,i2⟩:=hF.bx (j:=sl) yV))
       all_goals go_wp2_with fail
       all_goals
        obtain⟨h7,r7⟩:=hZ.Th sl (o1.yd.made.length+1);have h8:=h7;rw[hE.out]at h8;go_roundg (aJ.length-(k+1))
        case measure=>omega
        case rel=>exact⟨k+1,f,b',by omega,by omega,by go_num,rfl,by go_num,o1.new p0 n1,vi,vm3,vt3,h8,N7,.inl ⟨HN.out _ Mr.out,Mr.out⟩⟩
     ·
      have b6:(((l.op:Nat):Int)==6)=false:=by rw[jZ];omega
      have b9:(((l.op:Nat):Int)==9)=false:=by rw[jZ];omega
      have b18:(((l.op:Nat):Int)==18)=true:=by rw[beq_iff_eq];omega
      have b19:(((l.op:Nat):Int)==19)=false:=by rw[jZ];omega
      have b20:(((l.op:Nat):Int)==20)=false:=by rw[jZ];omega
      have b22:(((l.op:Nat):Int)==22)=false:=by rw[jZ];omega
      have kd:=HR.out;rw[ea,ja (by omega),ja (by omega),jb (by omega)]at kd;have qS:aJ.drop (k+1)=[]:=by
       by_cases lh:aJ.drop (k+1)=[]
       ·exact lh
       ·rw[ja lh]at kd;cases kd
      have B8:k+1=aJ.length:=by have:=List.drop_eq_nil_iff.mp qS;omega
      rw[jb qS]at kd;have mQ:(if o.other l then 1 else 0)<l.next.length:=by
       have h1:l.next.length=1:=by rw[hl.ER,ax];rfl
       rw[h1];have ho:o.other l=false:=(by rw[Own.other,ja (by omega),ja (by omega)]);rw[ho];decide
      have KX:=ri Cl MS hl ie (.inl ax) mQ;have De:l.next.getD (if o.other l then 1 else 0) 0<q.blocks.length:=hl.next _ (by rw[jA,jB mQ];exact jL _);have Mr:Hid (ea q (room:Nat) f (q.blocks.getD (l.next.getD (if o.other l then 1 else 0) 0) []) o=some ans):=kd;have N7:=hI.mono (show 3*(1000-(f+1))<=3*(1000-f) by omega);clear HR kd qS mQ ax;generalize l.next.getD (if o.other l then 1 else 0) 0=bn at*;go_wp2_with (go_at_call 63;go_fit KX;rintro e w1 ⟨rfl,h1⟩)
      go_roundg (aJ.length-(k+1))
      case measure=>omega
      case rel=>exact⟨k+1,f,bn,by omega,by omega,by go_num,rfl,by go_num,o,vi,vm,vt,Cl.below h1,N7,.inr ⟨B8,De,Mr.out⟩⟩
     ·
      have b6:(((l.op:Nat):Int)==6)=false:=by rw[jZ];omega
      have b9:(((l.op:Nat):Int)==9)=false:=by rw[jZ];omega
      have b18:(((l.op:Nat):Int)==18)=false:=by rw[jZ];omega
      have b19:(((l.op:Nat):Int)==19)=true:=by rw[beq_iff_eq];omega
      have b20:(((l.op:Nat):Int)==20)=false:=by rw[jZ];omega
      have b22:(((l.op:Nat):Int)==22)=false:=by rw[jZ];omega
      have kd:=HR.out;rw[ea,ja (by omega),ja (by omega),jb (by omega)]at kd;have qS:aJ.drop (k+1)=[]:=by
       by_cases lh:aJ.drop (k+1)=[]
       ·exact lh
       ·rw[ja lh]at kd;cases kd
      have B8:k+1=aJ.length:=by have:=List.drop_eq_nil_iff.mp qS;omega
      rw[jb qS]at kd;have mQ:(if o.other l then 1 else 0)<l.next.length:=by
       have h1:l.next.length=2:=by rw[hl.ER,ax];rfl
       rw[h1];split<;>omega
      have KX:=ri Cl MS hl ie (.inr (.inl ax)) mQ;have De:l.next.getD (if o.other l then 1 else 0) 0<q.blocks.length:=hl.next _ (by rw[jA,jB mQ];exact jL _);have Mr:Hid (ea q (room:Nat) f (q.blocks.getD (l.next.getD (if o.other l then 1 else 0) 0) []) o=some ans):=kd;have N7:=hI.mono (show 3*(1000-(f+1))<=3*(1000-f) by omega);clear HR kd qS mQ ax;generalize l.next.getD (if o.other l then 1 else 0) 0=bn at*;go_wp2_with (go_at_call 63;go_fit KX;rintro e w1 ⟨rfl,h1⟩)
      go_roundg (aJ.length-(k+1))
      case measure=>omega
      case rel=>exact⟨k+1,f,bn,by omega,by omega,by go_num,rfl,by go_num,o,vi,vm,vt,Cl.below h1,N7,.inr ⟨B8,De,Mr.out⟩⟩
     ·
      have b6:(((l.op:Nat):Int)==6)=false:=by rw[jZ];omega
      have b9:(((l.op:Nat):Int)==9)=false:=by rw[jZ];omega
      have b18:(((l.op:Nat):Int)==18)=false:=by rw[jZ];omega
      have b19:(((l.op:Nat):Int)==19)=false:=by rw[jZ];omega
      have b20:(((l.op:Nat):Int)==20)=true:=by rw[beq_iff_eq];omega
      have b22:(((l.op:Nat):Int)==22)=false:=by rw[jZ];omega
      have kd:=HR.out;rw[ea,ja (by omega),ja (by omega),jb (by omega)]at kd;have qS:aJ.drop (k+1)=[]:=by
       by_cases lh:aJ.drop (k+1)=[]
       ·exact lh
       ·rw[ja lh]at kd;cases kd
      have B8:k+1=aJ.length:=by have:=List.drop_eq_nil_iff.mp qS;omega
      rw[jb qS]at kd;have mQ:(if o.other l then 1 else 0)<l.next.length:=by
       have h1:l.next.length=2:=by rw[hl.ER,ax];rfl
       rw[h1];split<;>omega
      have KX:=ri Cl MS hl ie (.inr (.inr ax)) mQ;have De:l.next.getD (if o.other l then 1 else 0) 0<q.blocks.length:=hl.next _ (by rw[jA,jB mQ];exact jL _);have Mr:Hid (ea q (room:Nat) f (q.blocks.getD (l.next.getD (if o.other l then 1 else 0) 0) []) o=some ans):=kd;have N7:=hI.mono (show 3*(1000-(f+1))<=3*(1000-f) by omega);clear HR kd qS mQ ax;generalize l.next.getD (if o.other l then 1 else 0) 0=bn at*;go_wp2_with (go_at_call 63;go_fit KX;rintro e w1 ⟨rfl,h1⟩)
      go_roundg (aJ.length-(k+1))
      case measure=>omega
      case rel=>exact⟨k+1,f,bn,by omega,by omega,by go_num,rfl,by go_num,o,vi,vm,vt,Cl.below h1,N7,.inr ⟨B8,De,Mr.out⟩⟩
     ·
      have b6:(((l.op:Nat):Int)==6)=false:=by rw[jZ];omega
      have b9:(((l.op:Nat):Int)==9)=false:=by rw[jZ];omega
      have b18:(((l.op:Nat):Int)==18)=false:=by rw[jZ];omega
      have b19:(((l.op:Nat):Int)==19)=false:=by rw[jZ];omega
      have b20:(((l.op:Nat):Int)==20)=false:=by rw[jZ];omega
      have b22:(((l.op:Nat):Int)==22)=true:=by rw[beq_iff_eq];omega
      have hlen:l.places.length=1:=by rw[hl.cQ,ax];rfl
      obtain⟨g,rfl,qm,hg,c1,c2⟩:=bo MS hlen 0 (by omega);have hx:=(hl.places (l.places.getD 0 (0,0)) (by simp[hlen])).1;have zM:0<q.locals.length:=by omega
      have kd:=HR.out;rw[ea,ja (by omega),ja (by omega),ja (by omega),jb ax]at kd;have KN:=ej Cl (l.places.getD 0 (0,0)) (by omega);rw[hlen]at Cl MS my c1 c2 KN;rw[hlen]at k2;have hA:ans=(1,o.num (l.places.getD 0 (0,0)),o.dN q q.locals.length):=(Option.some.inj kd).symm;have HA:Hid (ans=(1,o.num (l.places.getD 0 (0,0)),o.dN q q.locals.length)):=hA;clear hA;have KA:=fun(W:World) (hW:dp w0 (w.heap.size+1) a W o vi vm vt)=>Gb hW ⟨YH.aJ,⟨_,YH.locals⟩⟩ zM ie hI (by omega) U6 (by omega)
      have N7:=hI.dN q q.locals.length (by omega);have KR:=fun(n:Int) (W:World) (vm vt:Value) (hW:dp w0 (w.heap.size+1) a W (o.dN q q.locals.length) vi vm vt)=>pW hW.kb 1 n ((N7.sz (by omega)).ok (by omega))
      clear HR kd hlen ax;generalize l.places.getD 0 (0,0)=p0 at*;generalize o.num p0=n0 at*;generalize o.dN q q.locals.length=o2 at*;go_wp2_with (first
       |(go_at_call 58;go_fit KN;rintro e w1 ⟨rfl,h1⟩;have mo:=Cl.below h1)
       |(go_at_call 64;go_fit (KA _ mo);rintro e w2 ⟨rfl,vm2,vt2,iN,r2⟩))
      apply wp_goto
      refine hJ _ _ _ _ rfl ?_;go_wp2_with (go_at_call 66;go_fit (KR _ _ _ _ iN);rintro e wz ⟨rfl,Rn⟩;have xO:=VY.out _ _ iN.br Rn;have z0:wz.cell? ⟨w.heap.size,0,none⟩=some (.int .i64 0):=(by rw[cell_of_heap xO];rfl);have z1:wz.cell? ⟨w.heap.size,1,none⟩=some (.int .i64 0):=(by rw[cell_of_heap xO];rfl);have z2:wz.cell? ⟨w.heap.size,2,none⟩=some (.string ⟨#[]⟩):=(by rw[cell_of_heap xO];rfl);have z3:wz.cell? ⟨w.heap.size,3,none⟩=some (.int .i64 0):=(by rw[cell_of_heap xO];rfl);have rf:=frozen_of_heap xO;have rf0:=rf 0;have rf1:=rf 1;have rf2:=rf 2;have rf3:=rf 3;clear rf)
      try rw[Exit.noGoto_ret]
      obtain⟨e4,zj⟩:=pV xO (.int .i64 1) (.int .i64 n0) (.string (bs o2.yd.text)) (.int .i64 o2.yd.live);refine bodyPost_ret (dQ Tryz.results44 _ _ _ w.heap.size [.int .i64 1,.int .i64 n0,.string (bs o2.yd.text),.int .i64 o2.yd.live] _ rfl (fun j u hu=>by rw[Nat.zero_add,cell_of_heap e4];simpa using hu) Tryz.underlying47 rfl ff) rfl ?_;exact⟨by rw[HA.out];rfl,HB4.out _ _ _ iN.br Rn zj⟩
   ·have hk:k=aJ.length:=by omega
    subst hk;obtain⟨o,vi,vm,vt,hO,hI,zK⟩:=ir.out;have Rq:b'<q.blocks.length/\Hid (ea q (room:Nat) f (q.blocks.getD b' []) o=some ans):=by
     rcases zK with⟨h,-⟩|⟨-,h1,h2⟩
     ·omega
     ·exact⟨h1,h2⟩
    clear ir zK;go_wp2
    go_roundg (f+1)
    case measure=>omega
    case rel=>exact⟨f,b',rfl,by omega,rfl,rfl,Rq.1,o,vi,vm,vt,hO,hI,Rq.2.out⟩
end
end Own
namespace RunB
open Go Sq Aux Go.Proofs.YtmlgajhhnojdjaaGreatDoor.Own RunA RefM PrjS FlwA FlwI FlwJ FlwK FlwM FlwO FlwP FlwQ FlwS FlwV FlwY FlwZ
def z7:Value:=.agg #[.int .i64 0,.int .i64 0,.string ⟨#[]⟩,.int .i64 0]
def ll (al:List Int)(fuel room:Int):Prop:=al.length<=100/\0<=fuel/\fuel<=1000/\0<=room/\room<=50
structure Good (text:B)(q:QP):Prop where
 read:bd text false=(some q,0,0)
 done:∃p E,aK text false=(some p,0,0)/\lB text p q E/\aC (cV q E) q.blocks.length 0=none
theorem Good.chk {text:B}{q:QP}(h:Good text q):mg text 0 0:=by
 obtain⟨p,E,h1,h2,h3⟩:=h.done;exact .inr ⟨p,q,E,h1,h.read,h2,.inr ⟨h3,rfl,rfl⟩⟩
theorem Good.run {text:B}{q:QP}(h:Good text q){J:List Nat->Own.Own->Prop}(H:Steps q J){al:List Int}(hJ:J aV (Own.start al))(room:Int)(f:Nat):∃ans,ea q room f (q.blocks.getD 0 []) (Own.start al)=some ans/\WN q J room ans:=by
 obtain⟨p,E,-,h2,h3⟩:=h.done;exact IT h2 h.read h3 H hJ room f
end RunB
end Go.Proofs.YtmlgajhhnojdjaaGreatDoor

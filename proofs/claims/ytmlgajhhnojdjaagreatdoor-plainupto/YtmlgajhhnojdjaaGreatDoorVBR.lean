import Derived.Test.YtmlgajhhnojdjaaGreatDoorVBK
namespace Go.Proofs.YtmlgajhhnojdjaaGreatDoor
namespace Own
open Go Go.RowKit Sq Aux PrjJ PrjK PrjL PrjM PrjQ PrjS PrjT FlwA FlwB FlwD FlwE FlwM
attribute [local go_sem ↓] y8 y7 y9
attribute [local go_sem] vP Az CC yE AA
def Gk (r:Nat×Int×Own):Value:=.agg #[.int .i64 ((r.1:Nat):Int),.int .i64 r.2.1,.string (bs r.2.2.yd.text),.int .i64 r.2.2.yd.live]
theorem Ha {z a:Nat}{w0:World}{q:QP}{vl vb:Value}{us:List Value}{vss:List (List (Value×Value))}(h:fe z a w0 q vl vb us vss){b:Nat}(hb:b<q.blocks.length):
  ∃gb cb adk ck,vb=.slice (some ⟨gb,0,none⟩) q.blocks.length cb/\q.blocks.length<=cb/\(∀W,Below w0.heap.size w0 W->W.cell? ⟨gb,b,none⟩=some (.slice adk (q.blocks.getD b []).length ck))/\cH z w0 (.slice adk (q.blocks.getD b []).length ck) (q.blocks.getD b []) (vss.getD b []):=by
 obtain⟨gb,cb,adk,ck,e,ym,sX,aQ,DW⟩:=et h b hb;refine⟨gb,cb,adk,ck,e,ym,fun W hW=>(hW.cell (p:=⟨gb,b,none⟩) sX).trans aQ,?_⟩;have h1:=h.each b hb;rw[DW]at h1;exact h1
theorem LG {z:Nat}{w0:World}{ad:Option Addr}{n c:Nat}{ls:List ab}{vs:List (Value×Value)}(h:cH z w0 (.slice ad n c) ls vs){j:Nat}(hj:j<ls.length):
  ∃g ap cp an cn,ad=some ⟨g,0,none⟩/\n=ls.length/\ls.length<=c/\∀W,Below w0.heap.size w0 W->(W.cell? ⟨g,j*6,none⟩=some (.int .i64 ((ls.getD j ab.nil).num:Nat))/\W.cell? ⟨g,j*6+1,none⟩=some (.int .i64 ((ls.getD j ab.nil).op:Nat))/\W.cell? ⟨g,j*6+2,none⟩=some (.slice ap (ls.getD j ab.nil).places.length cp)/\
   W.cell? ⟨g,j*6+3,none⟩=some (.int .i64 (ls.getD j ab.nil).number)/\W.cell? ⟨g,j*6+4,none⟩=some (.int .i64 (ls.getD j ab.nil).flag)/\W.cell? ⟨g,j*6+5,none⟩=some (.slice an (ls.getD j ab.nil).next.length cn))/\
   aE z W (ls.getD j ab.nil) (.slice ap (ls.getD j ab.nil).places.length cp) (.slice an (ls.getD j ab.nil).next.length cn):=by
 obtain⟨g,ap,cp,an,cn,e,hn,hc,hg,k0,k1,k2,k3,k4,k5,Oc⟩:=kt h j hj;refine⟨g,ap,cp,an,cn,e,hn,hc,fun W hW=>⟨⟨(hW.cell (p:=⟨g,j*6,none⟩) hg).trans k0,(hW.cell (p:=⟨g,j*6+1,none⟩) hg).trans k1,(hW.cell (p:=⟨g,j*6+2,none⟩) hg).trans k2,(hW.cell (p:=⟨g,j*6+3,none⟩) hg).trans k3,(hW.cell (p:=⟨g,j*6+4,none⟩) hg).trans k4,(hW.cell (p:=⟨g,j*6+5,none⟩) hg).trans k5⟩,?_⟩⟩;have h1:=h.each j hj;rw[Oc]at h1;exact aE.below h1 hW
structure Th (q:QP)(l:ab):Prop where
 op:kB l.op\/l.op=6\/l.op=9\/l.op=18\/l.op=19\/l.op=20\/l.op=22
 hl:l.op=12\/l.op=14->(QP.ai q (aw l 0)).length=(QP.ai q (aw l 1)).length
theorem FL {w:World}{a:Nat}{vi:Value}{cX:List Int}(hf:eE w vi cX)(u v:Value):cg w w.heap.size a ((w.alloc (.cells (br u v).toArray 104)).setCells w.heap.size 0 (br (.pointer (some ⟨a,0,none⟩)) vi)) (Own.start cX) vi (.slice none 0 0) (.slice none 0 0):=by
 obtain⟨h1,h2⟩:=LW w u v (.pointer (some ⟨a,0,none⟩)) vi;exact⟨⟨jC _,.inl rfl,h1,World.ownsRow_nil _ _ _ _,World.ownsRow_nil _ _ _ _⟩,h2,by simp[Own.start],by simp[Own.start],hf⟩
theorem kP {w1:World}{R:Nat}{u0 u1 u2 u3:Value}(hR:w1.heap[R]?=some (.cells #[u0,u1,u2,u3] 47 (0,0)))(v0 v1 v2 v3:Value):
  ((((w1.setCell ⟨R,0,none⟩ v0).setCell ⟨R,1,none⟩ v1).setCell ⟨R,2,none⟩ v2).setCell ⟨R,3,none⟩ v3).heap[R]?=some (.cells #[v0,v1,v2,v3] 47 (0,0))/\Below R w1 ((((w1.setCell ⟨R,0,none⟩ v0).setCell ⟨R,1,none⟩ v1).setCell ⟨R,2,none⟩ v2).setCell ⟨R,3,none⟩ v3):=by
 have e1:=Aux.heap_setCell_same hR 0 v0;have e2:=Aux.heap_setCell_same e1 1 v1;have e3:=Aux.heap_setCell_same e2 2 v2;have e4:=Aux.heap_setCell_same e3 3 v3;have hT:=((((aW.refl R w1).setCell 0 v0).setCell 1 v1).setCell 2 v2).setCell 3 v3;exact⟨e4,hT.below (jC _) (Nat.le_of_lt (lt_of_heap hR))⟩
section
variable {a:Nat} {w:World} {q:QP}
set_option maxRecDepth 20000 in
set_option maxHeartbeats 8000000 in
theorem J8 {z:Nat}{vl vb:Value}{us:List Value}{vss:List (List (Value×Value))}(h:fe z a w q vl vb us vss)(vi:Value)(cX:List Int)(hf:eE w vi cX)(hinp:∀n∈cX,cY n)(fuel room:Nat)(hfu:fuel<=1000)(_hro:room<=50)
  (mV:0<q.blocks.length) (_hn:q.blocks.length<=4000) (dS:q.locals.length<=12) (hq:vZ q.blocks.length q) (cD:∀j,(q.blocks.getD j []).length<=4000) (hrok:∀j,∀l∈q.blocks.getD j [],Th q l) (lB:Pow w) (ly:11<=w.heap.size)
  {dv:Nat×Int×Own} (Kw:dq q (room:Nat) fuel (q.blocks.getD 0 []) (Own.start cX)=some dv):
  Calls Tryz.prog 44 #[.pointer (some ⟨a,0,none⟩),vi,.int .i64 (fuel:Nat),.int .i64 (room:Nat)] w fun e w'=>e=.returned (Gk dv)/\Below w.heap.size w w':=by
 obtain⟨w0,rJ⟩:∃w0,w.alloc (.cells #[.int .i64 0,.int .i64 0,.string ⟨#[]⟩,.int .i64 0] 47)=w0:=⟨_,rfl⟩;have Ky:Below w.heap.size w w0:=by rw[<-rJ];exact(Below.refl _ _).alloc (jC _) _
 have GO:w0.heap.size=w.heap.size+1:=by rw[<-rJ];simp
 have Sk:w0.heap[w.heap.size]?=some (.cells #[.int .i64 0,.int .i64 0,.string ⟨#[]⟩,.int .i64 0] 47 (0,0)):=by rw[<-rJ];exact jD
 have Mp:=h.below Ky;have Lm:=lB.below Ky ly;have Mx:eE w0 vi cX:=by
  obtain⟨ad,c,rfl,h1,h2,h3⟩:=hf;refine⟨ad,c,rfl,h1,h2,fun j hj=> ?_⟩;obtain⟨g,f,e,hg,hc⟩:=h3 j hj;exact⟨g,f,e,by omega,(Ky.cell (p:=⟨g,f+j,none⟩) hg).trans hc⟩
 have Mo:=FL (a:=a) Mx (.pointer none) (.slice none 0 0);have fp:=Bl w0 (.pointer none) (.slice none 0 0);have hH:Hid (dq q (room:Nat) fuel (q.blocks.getD 0 []) (Own.start cX)=some dv):=Kw;obtain⟨ad,c,rfl,-⟩:=hf;clear Kw h lB;rw[GO]at Mo fp;go_enter Tryz.func44,Tryz.ntmps44
 go_wp2
 try rw[rJ]
 refine BE ?_;intro J hJ;go_upto_region 2 with fail
 clear fp rJ Mx;generalize ((w0.alloc (Obj.cells (br (Value.pointer none) (Value.slice none 0 0)).toArray 104)).setCells (w.heap.size+1) 0 (br (Value.pointer (some {block:=a,off:=0})) (Value.slice ad cX.length c)))=W0 at*;have BH:=(Own.In.start hinp).mono (jQ (3*(1000-fuel)));have iA:Hid (∃o vi vm vt,cg w0 (w.heap.size+1) a W0 o vi vm vt/\o.In (3*(1000-fuel))/\dq q (room:Nat) fuel (q.blocks.getD 0 []) o=some dv):=⟨_,_,_,_,Mo,BH,hH.out⟩;clear Mo BH hH;go_wp2
 go_loopg [2,11] (fuel+1) (fun g v2 v11 wr=>∃(f b:Nat),g=f+1/\f<=1000/\v2=.int .i64 f/\v11=.int .i64 b/\b<q.blocks.length/\Hid (∃o vi vm vt,cg w0 (w.heap.size+1) a wr o vi vm vt/\o.In (3*(1000-f))/\dq q (room:Nat) f (q.blocks.getD b []) o=some dv))
 case atStart=>exact⟨fuel,0,rfl,hfu,rfl,rfl,mV,iA⟩
 case round=>
  obtain⟨f0,b,hg,Mx,rfl,rfl,hb,iA⟩:=hrel;obtain⟨gb,cb,adk,ck,rfl,ym,KZ,yk⟩:=Ha Mp hb;have So:(b:Int)<(q.blocks.length:Nat):=by omega
  have hold:Below w0.heap.size w0 wr:=by obtain⟨o,vi,vm,vt,h1,-⟩:=iA.out;exact h1.bz
  obtain⟨p0,p1,-,-⟩:=fe.facts (Mp.below hold);have aQ:=KZ wr hold;have JY:=cD b;have oF:∀l∈q.blocks.getD b [],iB q.locals.length q.blocks.length l:=hq.lines _ (by simp[hb]);have YB:∀l∈q.blocks.getD b [],Th q l:=hrok b;generalize cW:q.blocks.getD b []=aD at*;clear cW KZ;generalize vss.getD b []=vsj at*;have c8:0<aD.length:=by
   obtain⟨o,vi,vm,vt,-,-,h3⟩:=iA.out;cases aD with
   |nil=>cases f0<;>simp[dq]at h3
   |cons _ _=>simp
  have HD:Hid (∀k,k<aD.length->aD.drop k=aD.getD k ab.nil::aD.drop (k+1)):=fun k hk=>by rw[jE hk];simp[hk]
  have Md:Hid (∀W W',Below w0.heap.size w0 W->Below W.heap.size W W'->W'.heap[w.heap.size]?=some (.cells #[.int .i64 0,.int .i64 0,.string ⟨#[]⟩,.int .i64 0] 47 (0,0))):=fun W W' h1 h2=>by
   have hs:=h1.size;rw[h2.block _ (by omega),h1.block _ (by omega)];exact Sk
  go_wp2
  go_loopg [2,11,26] (aD.length) (fun g v2 v11 v26 wn=>∃(k f b':Nat),g+k=aD.length/\f+k=f0/\v2=.int .i64 f/\v11=.int .i64 b'/\v26=.int .i64 k/\Hid (∃o vi vm vt,cg w0 (w.heap.size+1) a wn o vi vm vt/\o.In (3*(1000-f))/\((k<aD.length/\dq q (room:Nat) f (aD.drop k) o=some dv)\/(k=aD.length/\b'<q.blocks.length/\dq q (room:Nat) f (q.blocks.getD b' []) o=some dv))))
  case atStart=>
   obtain⟨o,vi,vm,vt,h1,h2,h3⟩:=iA.out;exact⟨0,f0,b,rfl,rfl,rfl,rfl,rfl,o,vi,vm,vt,h1,h2,.inl ⟨c8,h3⟩⟩
  case round=>
   obtain⟨k,f,b',yp,Ze,rfl,rfl,rfl,iA⟩:=hrel;clear p0 p1 aQ hold;by_cases hk:k<aD.length
   ·obtain⟨o,vi,vm,vt,hO,hI,sW⟩:=iA.out;have HR:Hid (dq q (room:Nat) f (aD.getD k ab.nil::aD.drop (k+1)) o=some dv):=by
     rcases sW with⟨-,h⟩|⟨h,-⟩
     ·rw[HD.out k hk]at h;exact h
     ·omega
    clear sW iA;obtain⟨gl,apl,cp,an,cn,rfl,-,DS,HL⟩:=LG yk hk;have kF:aD.getD k ab.nil∈aD:=by simp[hk]
    have hl:=oF _ kF;have hr:=YB _ kF;have EX:(k:Int)<(aD.length:Nat):=by omega
    generalize aD.getD k ab.nil=l at*;obtain⟨k0,k1,k2,k3,k4,k5⟩:=(HL _ hO.bz).1;have ko:Below wr.heap.size wr (wr.alloc (.cells #[.int .i64 (l.num:Nat),.int .i64 (l.op:Nat),.slice apl l.places.length cp,.int .i64 l.number,.int .i64 l.flag,.slice an l.next.length cn] 115)):=(Below.refl _ _).alloc (jC _) _;have vG:=hO.below ko;have DP:=(HL _ vG.bz).2;have gY:(wr.alloc (.cells #[.int .i64 (l.num:Nat),.int .i64 (l.op:Nat),.slice apl l.places.length cp,.int .i64 l.number,.int .i64 l.flag,.slice an l.next.length cn] 115)).heap[wr.heap.size]?=some (.cells #[.int .i64 (l.num:Nat),.int .i64 (l.op:Nat),.slice apl l.places.length cp,.int .i64 l.number,.int .i64 l.flag,.slice an l.next.length cn] 115 (0,0)):=jD;clear kF ko;have R6:Hid (∀W W' W'',Below w0.heap.size w0 W->Below W.heap.size W W'->Below w.heap.size W' W''->Below w.heap.size w W''):=fun W W' W'' h1 h2 h3=>by
     have:=h1.size;exact Ky.trans (((h1.mono (by omega)).trans (h2.mono (by omega))).trans h3)
    cases f with
    |zero=>
     have hA:dv=(2,0,o):=by have:=HR.out;rw[dq]at this;exact(Option.some.inj this).symm
     have KR:=fun(W:World) (hW:cg w0 (w.heap.size+1) a W o vi vm vt)=>kQ hW.fC 2 0 ((hI.sz (by omega)).ok (by omega))
     subst hA;go_wp2
     apply wp_goto
     refine hJ _ _ _ _ rfl ?_;go_wp2_with (go_at_call 66;go_fit (KR _ vG);rintro e wz ⟨rfl,H5⟩;have qg:=Md.out _ _ vG.bz H5;have z0:wz.cell? ⟨w.heap.size,0,none⟩=some (.int .i64 0):=(by rw[cell_of_heap qg];rfl);have z1:wz.cell? ⟨w.heap.size,1,none⟩=some (.int .i64 0):=(by rw[cell_of_heap qg];rfl);have z2:wz.cell? ⟨w.heap.size,2,none⟩=some (.string ⟨#[]⟩):=(by rw[cell_of_heap qg];rfl);have z3:wz.cell? ⟨w.heap.size,3,none⟩=some (.int .i64 0):=(by rw[cell_of_heap qg];rfl);have rf:=frozen_of_heap qg;have rf0:=rf 0;have rf1:=rf 1;have rf2:=rf 2;have rf3:=rf 3;clear rf)
     try rw[Exit.noGoto_ret]
     obtain⟨e4,yj⟩:=kP qg (.int .i64 2) (.int .i64 0) (.string (bs o.yd.text)) (.int .i64 o.yd.live);refine bodyPost_ret (cK Tryz.results44 _ _ _ w.heap.size [.int .i64 2,.int .i64 0,.string (bs o.yd.text),.int .i64 o.yd.live] _ rfl (fun j u hu=>by rw[Nat.zero_add,cell_of_heap e4];simpa using hu) Tryz.underlying47 rfl dy) rfl ?_;exact⟨rfl,R6.out _ _ _ vG.bz H5 yj⟩
    |succ f=>
     have Y6:(((f+1:Nat):Int)==0)=false:=by rw[jZ];omega
     have HN:Hid (∀o',dq q (room:Nat) f (aD.drop (k+1)) o'=some dv->k+1<aD.length):=fun o' h=>by
      by_cases aP:k+1<aD.length
      ·exact aP
      ·rw[jT (by omega)]at h;cases f<;>simp[dq]at h
     rcases hr.op with JU|aH|aH|aH|aH|aH|aH
     ·
      have c8:l.op≠6/\l.op≠9/\l.op≠18/\l.op≠19/\l.op≠20/\l.op≠22:=by unfold kB at JU;omega
      have b6:(((l.op:Nat):Int)==6)=false:=by rw[jZ];omega
      have b9:(((l.op:Nat):Int)==9)=false:=by rw[jZ];omega
      have b18:(((l.op:Nat):Int)==18)=false:=by rw[jZ];omega
      have b19:(((l.op:Nat):Int)==19)=false:=by rw[jZ];omega
      have BF:(((l.op:Nat):Int)==20)=false:=by rw[jZ];omega
      have b22:(((l.op:Nat):Int)==22)=false:=by rw[jZ];omega
      have gz:=HR.out;rw[dq,ja c8.1,ja c8.2.1,ja (by omega),ja c8.2.2.2.2.2]at gz;have mX:o.rL l=true:=by
       cases hv:o.rL l with
       |true=>rfl
       |false=>rw[hv,ja (by decide)]at gz;cases gz
      rw[jb mX]at gz;have Du:Hid (dq q (room:Nat) f (aD.drop (k+1)) (o.gJ q l)=some dv):=gz;have Cc:=(hI.gJ (by omega) q l (by have:=hl.number;unfold cY;omega)).mono (show 3*(1000-(f+1))+3<=3*(1000-f) by omega);have KD:=Nj vG DP hl dS JU hI (by omega) mX ⟨Mp.aD,⟨_,Mp.locals⟩⟩ hr.hl Lm (by omega);clear HR gz mX c8 JU;generalize o.gJ q l=o2 at*;go_wp2_with (go_at_call 65;go_fit KD;rintro e w1 ⟨rfl,vi2,vm2,vt2,fB,r2⟩)
      go_roundg (aD.length-(k+1))
      case measure=>omega
      case rel=>exact⟨k+1,f,b',by omega,by omega,by go_num,rfl,by go_num,o2,vi2,vm2,vt2,fB,Cc,.inl ⟨HN.out _ Du.out,Du.out⟩⟩
     ·
      have b6:(((l.op:Nat):Int)==6)=true:=by rw[beq_iff_eq];omega
      have b9:(((l.op:Nat):Int)==9)=false:=by rw[jZ];omega
      have b18:(((l.op:Nat):Int)==18)=false:=by rw[jZ];omega
      have b19:(((l.op:Nat):Int)==19)=false:=by rw[jZ];omega
      have BF:(((l.op:Nat):Int)==20)=false:=by rw[jZ];omega
      have b22:(((l.op:Nat):Int)==22)=false:=by rw[jZ];omega
      have hlen:l.places.length=3:=by rw[hl.cP,aH];rfl
      obtain⟨g,rfl,kC,hg,c1,c2⟩:=aS DP hlen 2 (by omega);have hx:=(hl.places (l.places.getD 2 (0,0)) (by simp[hlen])).1;have gz:=HR.out;rw[dq,jb aH]at gz;have KC:=fun(W:World) (hb:Below (wr.alloc (.cells #[.int .i64 (l.num:Nat),.int .i64 (l.op:Nat),.slice (some ⟨g,0,none⟩) l.places.length cp,.int .i64 l.number,.int .i64 l.flag,.slice an l.next.length cn] 115)).heap.size (wr.alloc (.cells #[.int .i64 (l.num:Nat),.int .i64 (l.op:Nat),.slice (some ⟨g,0,none⟩) l.places.length cp,.int .i64 l.number,.int .i64 l.flag,.slice an l.next.length cn] 115)) W) (hz:¬o.num (aw l 2)=0)=>mR (vG.below hb) (aE.below DP hb) hl dS (.inr (.inr (.inr aH))) (fun _=>hz) hI.oP
      have hC:Hid (({o with ints:=o.ints.set (ab.pl l 0).1 (qM l.op (o.num (ab.pl l 1)) (o.num (ab.pl l 2)))}:Own)=o.calc l):=rfl;rw[hC.out]at KC;have KN:=ei vG (l.places.getD 2 (0,0)) (by omega);have Cc:(o.calc l).In (3*(1000-f)):=(hI.setInt _ (zv _ _ _)).mono (show 3*(1000-(f+1))<=3*(1000-f) by omega);rw[hlen]at vG DP gY c1 c2 KC KN;rw[hlen]at k2;have dL:aw l 2=l.places.getD 2 (0,0):=rfl;rw[dL]at gz KC;clear dL hC;generalize l.places.getD 2 (0,0)=p2 at*;by_cases hz:o.num p2=0
      ·have Y0:(o.num p2==0)=true:=by rw[hz];rfl
       rw[jb hz]at gz;have hA:dv=(4,0,o):=(Option.some.inj gz).symm;subst hA;have KR:=fun(W:World) (hW:cg w0 (w.heap.size+1) a W o vi vm vt)=>kQ hW.fC 4 0 ((hI.sz (by omega)).ok (by omega))
       clear HR gz hz KC hlen aH;generalize o.num p2=n2 at*;go_wp2_with (go_at_call 58;go_fit KN;rintro e w1 ⟨rfl,h1⟩;have gh:=vG.below h1)
       apply wp_goto
       refine hJ _ _ _ _ rfl ?_;go_wp2_with (go_at_call 66;go_fit (KR _ gh);rintro e wz ⟨rfl,H5⟩;have qg:=Md.out _ _ gh.bz H5;have z0:wz.cell? ⟨w.heap.size,0,none⟩=some (.int .i64 0):=(by rw[cell_of_heap qg];rfl);have z1:wz.cell? ⟨w.heap.size,1,none⟩=some (.int .i64 0):=(by rw[cell_of_heap qg];rfl);have z2:wz.cell? ⟨w.heap.size,2,none⟩=some (.string ⟨#[]⟩):=(by rw[cell_of_heap qg];rfl);have z3:wz.cell? ⟨w.heap.size,3,none⟩=some (.int .i64 0):=(by rw[cell_of_heap qg];rfl);have rf:=frozen_of_heap qg;have rf0:=rf 0;have rf1:=rf 1;have rf2:=rf 2;have rf3:=rf 3;clear rf)
       try rw[Exit.noGoto_ret]
       obtain⟨e4,yj⟩:=kP qg (.int .i64 4) (.int .i64 0) (.string (bs o.yd.text)) (.int .i64 o.yd.live);refine bodyPost_ret (cK Tryz.results44 _ _ _ w.heap.size [.int .i64 4,.int .i64 0,.string (bs o.yd.text),.int .i64 o.yd.live] _ rfl (fun j u hu=>by rw[Nat.zero_add,cell_of_heap e4];simpa using hu) Tryz.underlying47 rfl dy) rfl ?_;exact⟨rfl,R6.out _ _ _ gh.bz H5 yj⟩
      ·have Y0:(o.num p2==0)=false:=by rw[jZ];exact hz
       rw[ja hz]at gz;have Du:Hid (dq q (room:Nat) f (aD.drop (k+1)) (o.calc l)=some dv):=gz;have WM:=fun W hb=>KC W hb hz
       clear HR gz hz KC hlen aH;generalize o.num p2=n2 at*;generalize o.calc l=o2 at*;go_wp2_with (first
        |(go_at_call 58;go_fit KN;rintro e w1 ⟨rfl,h1⟩;have px:=(h1.block _ (lt_of_heap gY)).trans gY;have m0:w1.cell? ⟨wr.heap.size,0,none⟩=_:=cell_of_heap px 0;have m1:w1.cell? ⟨wr.heap.size,1,none⟩=_:=cell_of_heap px 1;have m2:w1.cell? ⟨wr.heap.size,2,none⟩=_:=cell_of_heap px 2;have m3:w1.cell? ⟨wr.heap.size,3,none⟩=_:=cell_of_heap px 3;have m4:w1.cell? ⟨wr.heap.size,4,none⟩=_:=cell_of_heap px 4;have m5:w1.cell? ⟨wr.heap.size,5,none⟩=_:=cell_of_heap px 5;simp at m0 m1 m2 m3 m4 m5)
        |(go_at_call 59;go_fit (WM _ h1);rintro e w2 ⟨rfl,fB,r2⟩))
       go_roundg (aD.length-(k+1))
       case measure=>omega
       case rel=>exact⟨k+1,f,b',by omega,by omega,by go_num,rfl,by go_num,o2,vi,vm,vt,fB,Cc,.inl ⟨HN.out _ Du.out,Du.out⟩⟩
     ·
      have b6:(((l.op:Nat):Int)==6)=false:=by rw[jZ];omega
      have b9:(((l.op:Nat):Int)==9)=true:=by rw[beq_iff_eq];omega
      have b18:(((l.op:Nat):Int)==18)=false:=by rw[jZ];omega
      have b19:(((l.op:Nat):Int)==19)=false:=by rw[jZ];omega
      have BF:(((l.op:Nat):Int)==20)=false:=by rw[jZ];omega
      have b22:(((l.op:Nat):Int)==22)=false:=by rw[jZ];omega
      have hlen:l.places.length=2:=by rw[hl.cP,aH];rfl
      obtain⟨g,rfl,kC,hg,-,-⟩:=aS DP hlen 0 (by omega);have vM:=(hl.places (l.places.getD 0 (0,0)) (by simp[hlen])).1;have lf:=(hl.places (l.places.getD 1 (0,0)) (by simp[hlen])).1;have PC:Hid (∀W,Below w0.heap.size w0 W->W.cell? ⟨g,0,none⟩=some (.int .i64 ((l.places.getD 0 (0,0)).1:Nat))/\W.cell? ⟨g,1,none⟩=some (.int .i64 ((l.places.getD 0 (0,0)).2:Nat))/\W.cell? ⟨g,2,none⟩=some (.int .i64 ((l.places.getD 1 (0,0)).1:Nat))/\W.cell? ⟨g,3,none⟩=some (.int .i64 ((l.places.getD 1 (0,0)).2:Nat))):=fun W hW=>by
       have hp:=(HL W hW).2.places;exact⟨(bc hp (j:=0) (by omega)).1,(bc hp (j:=0) (by omega)).2,(bc hp (j:=1) (by omega)).1,(bc hp (j:=1) (by omega)).2⟩
      have gz:=HR.out;rw[dq,ja (by omega),jb aH]at gz;have e0:aw l 0=l.places.getD 0 (0,0):=rfl;have e1:aw l 1=l.places.getD 1 (0,0):=rfl;rw[e0,e1]at gz;obtain⟨c0,c1,c2,c3⟩:=PC.out _ vG.bz;rw[hlen]at vG DP gY c0 c1 c2 c3;rw[hlen]at k2;clear e0 e1 HR aH;generalize l.places.getD 0 (0,0)=p0 at*;generalize l.places.getD 1 (0,0)=p1 at*;have JR:Below (wr.alloc (.cells #[.int .i64 (l.num:Nat),.int .i64 (l.op:Nat),.slice (some ⟨g,0,none⟩) 2 cp,.int .i64 l.number,.int .i64 l.flag,.slice an l.next.length cn] 115)).heap.size (wr.alloc (.cells #[.int .i64 (l.num:Nat),.int .i64 (l.op:Nat),.slice (some ⟨g,0,none⟩) 2 cp,.int .i64 l.number,.int .i64 l.flag,.slice an l.next.length cn] 115)) ((wr.alloc (.cells #[.int .i64 (l.num:Nat),.int .i64 (l.op:Nat),.slice (some ⟨g,0,none⟩) 2 cp,.int .i64 l.number,.int .i64 l.flag,.slice an l.next.length cn] 115)).alloc (.cells #[.int .i64 (p0.1:Nat),.int .i64 (p0.2:Nat)] 119)):=(Below.refl _ _).alloc (jC _) _;have XF:=vG.below JR;have KD:=lH XF (eX (wr.alloc (.cells #[.int .i64 (l.num:Nat),.int .i64 (l.op:Nat),.slice (some ⟨g,0,none⟩) 2 cp,.int .i64 l.number,.int .i64 l.flag,.slice an l.next.length cn] 115)) p0 (n:=wr.heap.size+1) (by simp)) (fun y hy=>by simp only[List.mem_singleton]at hy;subst hy;omega) (by simp) hI.bx (hI.sz (by omega)) (by simp;omega) Lm (by omega);have JM:=hI.drop [p0] (by simp;omega);have Ij:(o.drop [p0]).num p1=o.num p1:=by unfold Own.num;rw[(eS [p0] o).2.1]
      have U9:Hid (o.num p1=(o.drop [p0]).num p1):=Ij.symm;rw[U9.out]at gz;clear hlen Ij U9;generalize o.drop [p0]=o1 at*;by_cases yo:o1.yd.live≥(room:Nat)
      ·rw[jb yo]at gz;have hA:dv=(3,0,o1):=(Option.some.inj gz).symm;subst hA;have KR:=fun(W:World) (vm vt:Value) (hW:cg w0 (w.heap.size+1) a W o1 vi vm vt)=>kQ hW.fC 3 0 ((JM.sz (by simp;omega)).ok (by simp;omega))
       have Ps:decide ((room:Int)<=o1.yd.live)=true:=decide_eq_true yo;clear gz;go_wp2_with (go_at_call 60;go_fit KD;rintro e w2 ⟨rfl,vm2,vt2,fB,r2⟩;obtain⟨f0,f1,f2,-⟩:=fB.fC.facts)
       apply wp_goto
       refine hJ _ _ _ _ rfl ?_;go_wp2_with (go_at_call 66;go_fit (KR _ _ _ fB);rintro e wz ⟨rfl,H5⟩;have qg:=Md.out _ _ fB.bz H5;have z0:wz.cell? ⟨w.heap.size,0,none⟩=some (.int .i64 0):=(by rw[cell_of_heap qg];rfl);have z1:wz.cell? ⟨w.heap.size,1,none⟩=some (.int .i64 0):=(by rw[cell_of_heap qg];rfl);have z2:wz.cell? ⟨w.heap.size,2,none⟩=some (.string ⟨#[]⟩):=(by rw[cell_of_heap qg];rfl);have z3:wz.cell? ⟨w.heap.size,3,none⟩=some (.int .i64 0):=(by rw[cell_of_heap qg];rfl);have rf:=frozen_of_heap qg;have rf0:=rf 0;have rf1:=rf 1;have rf2:=rf 2;have rf3:=rf 3;clear rf)
       try rw[Exit.noGoto_ret]
       obtain⟨e4,yj⟩:=kP qg (.int .i64 3) (.int .i64 0) (.string (bs o1.yd.text)) (.int .i64 o1.yd.live);refine bodyPost_ret (cK Tryz.results44 _ _ _ w.heap.size [.int .i64 3,.int .i64 0,.string (bs o1.yd.text),.int .i64 o1.yd.live] _ rfl (fun j u hu=>by rw[Nat.zero_add,cell_of_heap e4];simpa using hu) Tryz.underlying47 rfl dy) rfl ?_;exact⟨rfl,R6.out _ _ _ fB.bz H5 yj⟩
      ·rw[ja yo]at gz;have Du:Hid (dq q (room:Nat) f (aD.drop (k+1)) (o1.new p0 (o1.num p1))=some dv):=gz;have Cc:=(JM.new (by simp;omega) p0 (JM.num p1)).mono (show 3*(1000-(f+1))+[p0].length+1<=3*(1000-f) by simp;omega);have Ps:decide ((room:Int)<=o1.yd.live)=false:=decide_eq_false yo;have XU:o1.yd.live<(room:Int):=by omega
       clear gz yo;have Rm:o1.yd.Ok:=(JM.sz (by simp;omega)).ok (by simp;omega);go_upto_region 18 with(go_at_call 60;go_fit KD;rintro e w2 ⟨rfl,vm2,vt2,fB,r2⟩;obtain⟨f0,f1,f2,-⟩:=fB.fC.facts)
       have Nv:=fB.drew;have Wg:aI (w.heap.size+1) vm2 vt2 w2 vm2 vt2 w2.drew:=aI.of (fj w2);obtain⟨d0,d1,d2,d3⟩:=PC.out _ fB.bz;have gO:ah p0<24:=by unfold ah;split<;>omega
       have Im:(ah p0:Int)<24:=by omega
       have vK:cY (o1.num p1):=JM.num p1;have KS:=fun(W:World)=>cf p0 W (by omega)
       have KN:=fun(W:World) (hW:cg w0 (w.heap.size+1) a W o1 vi vm2 vt2)=>ei hW p1 (by omega)
       have KB:=fun(W:World) (hW:cg w0 (w.heap.size+1) a W o1 vi vm2 vt2)=>Ew hW.fC (o1.num p1) (Lm.below hW.bz (by omega)) Rm (by omega)
       have VT:g≠w.heap.size+1:=fun e=>by
        have h1:=fB.fC.aD;rw[<-e]at h1;exact az (HL _ fB.bz).2.places h1 (by decide) rfl
       have Ls:w.heap.size+1≠g:=fun e=>VT e.symm
       have hE:Hid (({o1 with yd:=o1.yd.build (o1.num p1),boxes:=o1.boxes.set (ah p0) (o1.yd.made.length+1)}:Own)=o1.new p0 (o1.num p1)):=rfl;clear KD Rm;generalize o1.num p1=n1 at*;generalize ah p0=sl at*;go_region_held3 (fun W=>W.cell? ⟨g,0,none⟩=some (.int .i64 (p0.1:Nat))/\W.cell? ⟨g,1,none⟩=some (.int .i64 (p0.2:Nat))/\W.cell? ⟨g,2,none⟩=some (.int .i64 (p1.1:Nat))/\W.cell? ⟨g,3,none⟩=some (.int .i64 (p1.2:Nat))) (go_keep)
        (first
        |(go_at_call 62;go_fit (KS wB);rintro e w6 ⟨rfl,h6⟩;have PV:=hF.below h6;have rF2:=rF.trans (aI.of h6);obtain⟨x0,x1,x2,x3⟩:=PC.out _ PV.bz;obtain⟨i1,i2⟩:=PV.bx (j:=sl) gO;have hZ:=PV;have rZ:=rF2)
        |(go_at_call 62;go_fit (KS wN);rintro e w5 ⟨rfl,h5⟩;have P5:=Sj.below h5;have rC:=rN.trans (aI.of h5);obtain⟨x0,x1,x2,x3⟩:=PC.out _ P5.bz)
        |(go_at_call 62;go_fit (KS w2.drew);rintro e wS ⟨rfl,h5⟩;have TC:=Nv.below h5;have rS:=Wg.trans (aI.of h5);obtain⟨x0,x1,x2,x3⟩:=PC.out _ TC.bz)
        |(go_at_call 58;go_fit (KN _ TC);rintro e w4 ⟨rfl,h4⟩;have P5:=TC.below h4;have rC:=rS.trans (aI.of h4);obtain⟨y0,y1,y2,y3⟩:=PC.out _ P5.bz)
        |(go_at_call 58;go_fit (KN _ Nv);rintro e wN ⟨rfl,h4⟩;have Sj:=Nv.below h4;have rN:=Wg.trans (aI.of h4);obtain⟨y0,y1,y2,y3⟩:=PC.out _ Sj.bz)
        |(go_at_call 61;go_fit (KB _ P5);rintro e wC ⟨rfl,vm3,vt3,UQ,r3⟩;have hZ:=P5.GG UQ r3;have rZ:=rC.trans r3;obtain⟨z0,z1,z2,z3⟩:=PC.out _ hZ.bz;obtain⟨i1,i2⟩:=hZ.bx (j:=sl) gO)
        |(go_at_call 61;go_fit (KB _ Sj);rintro e wB ⟨rfl,vm3,vt3,UQ,r3⟩;have hF:=Sj.GG UQ r3;have rF:=rN.trans r3;obtain⟨z0,z1,z2,z3⟩:=PC.out _ hF.bz;obtain⟨i1,i2⟩:=hF.bx (j:=sl) gO))
       all_goals go_wp2_with fail
       all_goals
        obtain⟨h7,r7⟩:=hZ.Jh sl (o1.yd.made.length+1);have h8:=h7;rw[hE.out]at h8;go_roundg (aD.length-(k+1))
        case measure=>omega
        case rel=>exact⟨k+1,f,b',by omega,by omega,by go_num,rfl,by go_num,o1.new p0 n1,vi,vm3,vt3,h8,Cc,.inl ⟨HN.out _ Du.out,Du.out⟩⟩
     ·
      have b6:(((l.op:Nat):Int)==6)=false:=by rw[jZ];omega
      have b9:(((l.op:Nat):Int)==9)=false:=by rw[jZ];omega
      have b18:(((l.op:Nat):Int)==18)=true:=by rw[beq_iff_eq];omega
      have b19:(((l.op:Nat):Int)==19)=false:=by rw[jZ];omega
      have BF:(((l.op:Nat):Int)==20)=false:=by rw[jZ];omega
      have b22:(((l.op:Nat):Int)==22)=false:=by rw[jZ];omega
      have gz:=HR.out;rw[dq,ja (by omega),ja (by omega),jb (by omega)]at gz;have ql:aD.drop (k+1)=[]:=by
       by_cases iE:aD.drop (k+1)=[]
       ·exact iE
       ·rw[ja iE]at gz;cases gz
      have BM:k+1=aD.length:=by have:=List.drop_eq_nil_iff.mp ql;omega
      rw[jb ql]at gz;have jw:(if o.other l then 1 else 0)<l.next.length:=by
       have h1:l.next.length=1:=by rw[hl.pI,aH];rfl
       rw[h1];have ho:o.other l=false:=(by rw[Own.other,ja (by omega),ja (by omega)]);rw[ho];decide
      have KX:=tz vG DP hl dS (.inl aH) jw;have DR:l.next.getD (if o.other l then 1 else 0) 0<q.blocks.length:=hl.next _ (by rw[jA,jB jw];exact jL _);have Du:Hid (dq q (room:Nat) f (q.blocks.getD (l.next.getD (if o.other l then 1 else 0) 0) []) o=some dv):=gz;have Cc:=hI.mono (show 3*(1000-(f+1))<=3*(1000-f) by omega);clear HR gz ql jw aH;generalize l.next.getD (if o.other l then 1 else 0) 0=bn at*;go_wp2_with (go_at_call 63;go_fit KX;rintro e w1 ⟨rfl,h1⟩)
      go_roundg (aD.length-(k+1))
      case measure=>omega
      case rel=>exact⟨k+1,f,bn,by omega,by omega,by go_num,rfl,by go_num,o,vi,vm,vt,vG.below h1,Cc,.inr ⟨BM,DR,Du.out⟩⟩
     ·
      have b6:(((l.op:Nat):Int)==6)=false:=by rw[jZ];omega
      have b9:(((l.op:Nat):Int)==9)=false:=by rw[jZ];omega
      have b18:(((l.op:Nat):Int)==18)=false:=by rw[jZ];omega
      have b19:(((l.op:Nat):Int)==19)=true:=by rw[beq_iff_eq];omega
      have BF:(((l.op:Nat):Int)==20)=false:=by rw[jZ];omega
      have b22:(((l.op:Nat):Int)==22)=false:=by rw[jZ];omega
      have gz:=HR.out;rw[dq,ja (by omega),ja (by omega),jb (by omega)]at gz;have ql:aD.drop (k+1)=[]:=by
       by_cases iE:aD.drop (k+1)=[]
       ·exact iE
       ·rw[ja iE]at gz;cases gz
      have BM:k+1=aD.length:=by have:=List.drop_eq_nil_iff.mp ql;omega
      rw[jb ql]at gz;have jw:(if o.other l then 1 else 0)<l.next.length:=by
       have h1:l.next.length=2:=by rw[hl.pI,aH];rfl
       rw[h1];split<;>omega
      have KX:=tz vG DP hl dS (.inr (.inl aH)) jw;have DR:l.next.getD (if o.other l then 1 else 0) 0<q.blocks.length:=hl.next _ (by rw[jA,jB jw];exact jL _);have Du:Hid (dq q (room:Nat) f (q.blocks.getD (l.next.getD (if o.other l then 1 else 0) 0) []) o=some dv):=gz;have Cc:=hI.mono (show 3*(1000-(f+1))<=3*(1000-f) by omega);clear HR gz ql jw aH;generalize l.next.getD (if o.other l then 1 else 0) 0=bn at*;go_wp2_with (go_at_call 63;go_fit KX;rintro e w1 ⟨rfl,h1⟩)
      go_roundg (aD.length-(k+1))
      case measure=>omega
      case rel=>exact⟨k+1,f,bn,by omega,by omega,by go_num,rfl,by go_num,o,vi,vm,vt,vG.below h1,Cc,.inr ⟨BM,DR,Du.out⟩⟩
     ·
      have b6:(((l.op:Nat):Int)==6)=false:=by rw[jZ];omega
      have b9:(((l.op:Nat):Int)==9)=false:=by rw[jZ];omega
      have b18:(((l.op:Nat):Int)==18)=false:=by rw[jZ];omega
      have b19:(((l.op:Nat):Int)==19)=false:=by rw[jZ];omega
      have BF:(((l.op:Nat):Int)==20)=true:=by rw[beq_iff_eq];omega
      have b22:(((l.op:Nat):Int)==22)=false:=by rw[jZ];omega
      have gz:=HR.out;rw[dq,ja (by omega),ja (by omega),jb (by omega)]at gz;have ql:aD.drop (k+1)=[]:=by
       by_cases iE:aD.drop (k+1)=[]
       ·exact iE
       ·rw[ja iE]at gz;cases gz
      have BM:k+1=aD.length:=by have:=List.drop_eq_nil_iff.mp ql;omega
      rw[jb ql]at gz;have jw:(if o.other l then 1 else 0)<l.next.length:=by
       have h1:l.next.length=2:=by rw[hl.pI,aH];rfl
       rw[h1];split<;>omega
      have KX:=tz vG DP hl dS (.inr (.inr aH)) jw;have DR:l.next.getD (if o.other l then 1 else 0) 0<q.blocks.length:=hl.next _ (by rw[jA,jB jw];exact jL _);have Du:Hid (dq q (room:Nat) f (q.blocks.getD (l.next.getD (if o.other l then 1 else 0) 0) []) o=some dv):=gz;have Cc:=hI.mono (show 3*(1000-(f+1))<=3*(1000-f) by omega);clear HR gz ql jw aH;generalize l.next.getD (if o.other l then 1 else 0) 0=bn at*;go_wp2_with (go_at_call 63;go_fit KX;rintro e w1 ⟨rfl,h1⟩)
      go_roundg (aD.length-(k+1))
      case measure=>omega
      case rel=>exact⟨k+1,f,bn,by omega,by omega,by go_num,rfl,by go_num,o,vi,vm,vt,vG.below h1,Cc,.inr ⟨BM,DR,Du.out⟩⟩
     ·
      have b6:(((l.op:Nat):Int)==6)=false:=by rw[jZ];omega
      have b9:(((l.op:Nat):Int)==9)=false:=by rw[jZ];omega
      have b18:(((l.op:Nat):Int)==18)=false:=by rw[jZ];omega
      have b19:(((l.op:Nat):Int)==19)=false:=by rw[jZ];omega
      have BF:(((l.op:Nat):Int)==20)=false:=by rw[jZ];omega
      have b22:(((l.op:Nat):Int)==22)=true:=by rw[beq_iff_eq];omega
      have hlen:l.places.length=1:=by rw[hl.cP,aH];rfl
      obtain⟨g,rfl,kC,hg,c1,c2⟩:=aS DP hlen 0 (by omega);have hx:=(hl.places (l.places.getD 0 (0,0)) (by simp[hlen])).1;have mW:0<q.locals.length:=by omega
      have gz:=HR.out;rw[dq,ja (by omega),ja (by omega),ja (by omega),jb aH]at gz;have KN:=ei vG (l.places.getD 0 (0,0)) (by omega);rw[hlen]at vG DP gY c1 c2 KN;rw[hlen]at k2;have hA:dv=(1,o.num (l.places.getD 0 (0,0)),o.dd q q.locals.length):=(Option.some.inj gz).symm;have HA:Hid (dv=(1,o.num (l.places.getD 0 (0,0)),o.dd q q.locals.length)):=hA;clear hA;have KA:=fun(W:World) (hW:cg w0 (w.heap.size+1) a W o vi vm vt)=>zB hW ⟨Mp.aD,⟨_,Mp.locals⟩⟩ mW dS hI (by omega) Lm (by omega)
      have Cc:=hI.dd q q.locals.length (by omega);have KR:=fun(n:Int) (W:World) (vm vt:Value) (hW:cg w0 (w.heap.size+1) a W (o.dd q q.locals.length) vi vm vt)=>kQ hW.fC 1 n ((Cc.sz (by omega)).ok (by omega))
      clear HR gz hlen aH;generalize l.places.getD 0 (0,0)=p0 at*;generalize o.num p0=n0 at*;generalize o.dd q q.locals.length=o2 at*;go_wp2_with (first
       |(go_at_call 58;go_fit KN;rintro e w1 ⟨rfl,h1⟩;have gh:=vG.below h1)
       |(go_at_call 64;go_fit (KA _ gh);rintro e w2 ⟨rfl,vm2,vt2,fB,r2⟩))
      apply wp_goto
      refine hJ _ _ _ _ rfl ?_;go_wp2_with (go_at_call 66;go_fit (KR _ _ _ _ fB);rintro e wz ⟨rfl,H5⟩;have qg:=Md.out _ _ fB.bz H5;have z0:wz.cell? ⟨w.heap.size,0,none⟩=some (.int .i64 0):=(by rw[cell_of_heap qg];rfl);have z1:wz.cell? ⟨w.heap.size,1,none⟩=some (.int .i64 0):=(by rw[cell_of_heap qg];rfl);have z2:wz.cell? ⟨w.heap.size,2,none⟩=some (.string ⟨#[]⟩):=(by rw[cell_of_heap qg];rfl);have z3:wz.cell? ⟨w.heap.size,3,none⟩=some (.int .i64 0):=(by rw[cell_of_heap qg];rfl);have rf:=frozen_of_heap qg;have rf0:=rf 0;have rf1:=rf 1;have rf2:=rf 2;have rf3:=rf 3;clear rf)
      try rw[Exit.noGoto_ret]
      obtain⟨e4,yj⟩:=kP qg (.int .i64 1) (.int .i64 n0) (.string (bs o2.yd.text)) (.int .i64 o2.yd.live);refine bodyPost_ret (cK Tryz.results44 _ _ _ w.heap.size [.int .i64 1,.int .i64 n0,.string (bs o2.yd.text),.int .i64 o2.yd.live] _ rfl (fun j u hu=>by rw[Nat.zero_add,cell_of_heap e4];simpa using hu) Tryz.underlying47 rfl dy) rfl ?_;exact⟨by rw[HA.out];rfl,R6.out _ _ _ fB.bz H5 yj⟩
   ·have hk:k=aD.length:=by omega
    subst hk;obtain⟨o,vi,vm,vt,hO,hI,sW⟩:=iA.out;have H8:b'<q.blocks.length/\Hid (dq q (room:Nat) f (q.blocks.getD b' []) o=some dv):=by
     rcases sW with⟨h,-⟩|⟨-,h1,h2⟩
     ·omega
     ·exact⟨h1,h2⟩
    clear iA sW;go_wp2
    go_roundg (f+1)
    case measure=>omega
    case rel=>exact⟨f,b',rfl,by omega,rfl,rfl,H8.1,o,vi,vm,vt,hO,hI,H8.2.out⟩
end
end Own
end Go.Proofs.YtmlgajhhnojdjaaGreatDoor

import Derived.Test.YtmlgajhhnojdjaaGreatDoorUBF
namespace Go.Proofs.YtmlgajhhnojdjaaGreatDoor
namespace Own
open Go Go.RowKit Sq Aux PrjJ PrjK PrjL PrjM PrjQ PrjS PrjT FlwA FlwB FlwD FlwE FlwM
attribute [local go_sem ↓] DX DW DY
attribute [local go_sem] qX xd zr sF xe
def Gl (r:Nat×Int×Own):Value:=.agg #[.int .i64 ((r.1:Nat):Int),.int .i64 r.2.1,.string (bs r.2.2.yd.text),.int .i64 r.2.2.yd.live]
theorem Ek {z a:Nat}{w0:World}{q:QP}{vl vb:Value}{us:List Value}{vss:List (List (Value×Value))}(h:gS z a w0 q vl vb us vss){b:Nat}(hb:b<q.blocks.length):
  ∃gb cb adk ck,vb=.slice (some ⟨gb,0,none⟩) q.blocks.length cb/\q.blocks.length<=cb/\(∀W,Below w0.heap.size w0 W->W.cell? ⟨gb,b,none⟩=some (.slice adk (q.blocks.getD b []).length ck))/\dD z w0 (.slice adk (q.blocks.getD b []).length ck) (q.blocks.getD b []) (vss.getD b []):=by
 obtain⟨gb,cb,adk,ck,e,B8,B9,aX,Kd⟩:=fZ h b hb;refine⟨gb,cb,adk,ck,e,B8,fun W hW=>(hW.cell (p:=⟨gb,b,none⟩) B9).trans aX,?_⟩;have h1:=h.each b hb;rw[Kd]at h1;exact h1
theorem Kk {z:Nat}{w0:World}{ad:Option Addr}{n c:Nat}{ls:List ab}{vs:List (Value×Value)}(h:dD z w0 (.slice ad n c) ls vs){j:Nat}(hj:j<ls.length):
  ∃g ap cp an cn,ad=some ⟨g,0,none⟩/\n=ls.length/\ls.length<=c/\∀W,Below w0.heap.size w0 W->(W.cell? ⟨g,j*6,none⟩=some (.int .i64 ((ls.getD j ab.nil).num:Nat))/\W.cell? ⟨g,j*6+1,none⟩=some (.int .i64 ((ls.getD j ab.nil).op:Nat))/\W.cell? ⟨g,j*6+2,none⟩=some (.slice ap (ls.getD j ab.nil).places.length cp)/\
   W.cell? ⟨g,j*6+3,none⟩=some (.int .i64 (ls.getD j ab.nil).number)/\W.cell? ⟨g,j*6+4,none⟩=some (.int .i64 (ls.getD j ab.nil).flag)/\W.cell? ⟨g,j*6+5,none⟩=some (.slice an (ls.getD j ab.nil).next.length cn))/\
   aC z W (ls.getD j ab.nil) (.slice ap (ls.getD j ab.nil).places.length cp) (.slice an (ls.getD j ab.nil).next.length cn):=by
 obtain⟨g,ap,cp,an,cn,e,hn,hc,hg,k0,k1,k2,k3,k4,k5,UM⟩:=oi h j hj;refine⟨g,ap,cp,an,cn,e,hn,hc,fun W hW=>⟨⟨(hW.cell (p:=⟨g,j*6,none⟩) hg).trans k0,(hW.cell (p:=⟨g,j*6+1,none⟩) hg).trans k1,(hW.cell (p:=⟨g,j*6+2,none⟩) hg).trans k2,(hW.cell (p:=⟨g,j*6+3,none⟩) hg).trans k3,(hW.cell (p:=⟨g,j*6+4,none⟩) hg).trans k4,(hW.cell (p:=⟨g,j*6+5,none⟩) hg).trans k5⟩,?_⟩⟩;have h1:=h.each j hj;rw[UM]at h1;exact aC.below h1 hW
structure Zq (q:QP)(l:ab):Prop where
 op:ik l.op\/l.op=6\/l.op=9\/l.op=18\/l.op=19\/l.op=20\/l.op=22
 hl:l.op=12\/l.op=14->(QP.ai q (ag l 0)).length=(QP.ai q (ag l 1)).length
theorem MP {w:World}{a:Nat}{vi:Value}{aO:List Int}(hf:cy w vi aO)(u v:Value):dq w w.heap.size a ((w.alloc (.cells (bW u v).toArray 104)).setCells w.heap.size 0 (bW (.pointer (some ⟨a,0,none⟩)) vi)) (Own.start aO) vi (.slice none 0 0) (.slice none 0 0):=by
 obtain⟨h1,h2⟩:=Sy w u v (.pointer (some ⟨a,0,none⟩)) vi;exact⟨⟨jC _,.inl rfl,h1,World.ownsRow_nil _ _ _ _,World.ownsRow_nil _ _ _ _⟩,h2,by simp[Own.start],by simp[Own.start],hf⟩
theorem fe {w1:World}{R:Nat}{u0 u1 u2 u3:Value}(hR:w1.heap[R]?=some (.cells #[u0,u1,u2,u3] 47 (0,0)))(v0 v1 v2 v3:Value):
  ((((w1.setCell ⟨R,0,none⟩ v0).setCell ⟨R,1,none⟩ v1).setCell ⟨R,2,none⟩ v2).setCell ⟨R,3,none⟩ v3).heap[R]?=some (.cells #[v0,v1,v2,v3] 47 (0,0))/\Below R w1 ((((w1.setCell ⟨R,0,none⟩ v0).setCell ⟨R,1,none⟩ v1).setCell ⟨R,2,none⟩ v2).setCell ⟨R,3,none⟩ v3):=by
 have e1:=Aux.heap_setCell_same hR 0 v0;have e2:=Aux.heap_setCell_same e1 1 v1;have e3:=Aux.heap_setCell_same e2 2 v2;have e4:=Aux.heap_setCell_same e3 3 v3;have hT:=((((bD.refl R w1).setCell 0 v0).setCell 1 v1).setCell 2 v2).setCell 3 v3;exact⟨e4,hT.below (jC _) (Nat.le_of_lt (lt_of_heap hR))⟩
section
variable {a:Nat} {w:World} {q:QP}
set_option maxRecDepth 20000 in
set_option maxHeartbeats 8000000 in
theorem Q8 {z:Nat}{vl vb:Value}{us:List Value}{vss:List (List (Value×Value))}(h:gS z a w q vl vb us vss)(vi:Value)(aO:List Int)(hf:cy w vi aO)(lv:∀n∈aO,bC n)(fuel room:Nat)(hfu:fuel<=1000)(_hro:room<=50)
  (lo:0<q.blocks.length) (_hn:q.blocks.length<=4000) (bU:q.locals.length<=12) (hq:AE q.blocks.length q) (dp:∀j,(q.blocks.getD j []).length<=4000) (hrok:∀j,∀l∈q.blocks.getD j [],Zq q l) (iD:Pow w) (iG:11<=w.heap.size)
  {bX:Nat×Int×Own} (Im:df q (room:Nat) fuel (q.blocks.getD 0 []) (Own.start aO)=some bX):
  Calls Tryz.prog 44 #[.pointer (some ⟨a,0,none⟩),vi,.int .i64 (fuel:Nat),.int .i64 (room:Nat)] w fun e w'=>e=.returned (Gl bX)/\Below w.heap.size w w':=by
 obtain⟨w0,o8⟩:∃w0,w.alloc (.cells #[.int .i64 0,.int .i64 0,.string ⟨#[]⟩,.int .i64 0] 47)=w0:=⟨_,rfl⟩;have Da:Below w.heap.size w w0:=by rw[<-o8];exact(Below.refl _ _).alloc (jC _) _
 have yj:w0.heap.size=w.heap.size+1:=by rw[<-o8];simp
 have Rt:w0.heap[w.heap.size]?=some (.cells #[.int .i64 0,.int .i64 0,.string ⟨#[]⟩,.int .i64 0] 47 (0,0)):=by rw[<-o8];exact jD
 have LM:=h.below Da;have Ix:=iD.below Da iG;have NK:cy w0 vi aO:=by
  obtain⟨ad,c,rfl,h1,h2,h3⟩:=hf;refine⟨ad,c,rfl,h1,h2,fun j hj=> ?_⟩;obtain⟨g,f,e,hg,hc⟩:=h3 j hj;exact⟨g,f,e,by omega,(Da.cell (p:=⟨g,f+j,none⟩) hg).trans hc⟩
 have NH:=MP (a:=a) NK (.pointer none) (.slice none 0 0);have gy:=Gp w0 (.pointer none) (.slice none 0 0);have hH:Hid (df q (room:Nat) fuel (q.blocks.getD 0 []) (Own.start aO)=some bX):=Im;obtain⟨ad,c,rfl,-⟩:=hf;clear Im h iD;rw[yj]at NH gy;go_enter Tryz.func44,Tryz.ntmps44
 go_wp2
 try rw[o8]
 refine xG ?_;intro J hJ;go_upto_region 2 with fail
 clear gy o8 NK;generalize ((w0.alloc (Obj.cells (bW (Value.pointer none) (Value.slice none 0 0)).toArray 104)).setCells (w.heap.size+1) 0 (bW (Value.pointer (some {block:=a,off:=0})) (Value.slice ad aO.length c)))=W0 at*;have C9:=(Own.In.start lv).mono (jQ (3*(1000-fuel)));have fy:Hid (∃o vi vm vt,dq w0 (w.heap.size+1) a W0 o vi vm vt/\o.In (3*(1000-fuel))/\df q (room:Nat) fuel (q.blocks.getD 0 []) o=some bX):=⟨_,_,_,_,NH,C9,hH.out⟩;clear NH C9 hH;go_wp2
 go_loopg [2,11] (fuel+1) (fun g v2 v11 wr=>∃(f b:Nat),g=f+1/\f<=1000/\v2=.int .i64 f/\v11=.int .i64 b/\b<q.blocks.length/\Hid (∃o vi vm vt,dq w0 (w.heap.size+1) a wr o vi vm vt/\o.In (3*(1000-f))/\df q (room:Nat) f (q.blocks.getD b []) o=some bX))
 case atStart=>exact⟨fuel,0,rfl,hfu,rfl,rfl,lo,fy⟩
 case round=>
  obtain⟨f0,b,hg,NK,rfl,rfl,hb,fy⟩:=hrel;obtain⟨gb,cb,adk,ck,rfl,B8,NJ,AX⟩:=Ek LM hb;have WJ:(b:Int)<(q.blocks.length:Nat):=by omega
  have hold:Below w0.heap.size w0 wr:=by obtain⟨o,vi,vm,vt,h1,-⟩:=fy.out;exact h1.aZ
  obtain⟨p0,p1,-,-⟩:=gS.facts (LM.below hold);have aX:=NJ wr hold;have pK:=dp b;have qU:∀l∈q.blocks.getD b [],fY q.locals.length q.blocks.length l:=hq.lines _ (by simp[hb]);have hrk:∀l∈q.blocks.getD b [],Zq q l:=hrok b;generalize dj:q.blocks.getD b []=aM at*;clear dj NJ;generalize vss.getD b []=vsj at*;have dB:0<aM.length:=by
   obtain⟨o,vi,vm,vt,-,-,h3⟩:=fy.out;cases aM with
   |nil=>cases f0<;>simp[df]at h3
   |cons _ _=>simp
  have HD:Hid (∀k,k<aM.length->aM.drop k=aM.getD k ab.nil::aM.drop (k+1)):=fun k hk=>by rw[jE hk];simp[hk]
  have JL:Hid (∀W W',Below w0.heap.size w0 W->Below W.heap.size W W'->W'.heap[w.heap.size]?=some (.cells #[.int .i64 0,.int .i64 0,.string ⟨#[]⟩,.int .i64 0] 47 (0,0))):=fun W W' h1 h2=>by
   have hs:=h1.size;rw[h2.block _ (by omega),h1.block _ (by omega)];exact Rt
  go_wp2
  go_loopg [2,11,26] (aM.length) (fun g v2 v11 v26 wn=>∃(k f b':Nat),g+k=aM.length/\f+k=f0/\v2=.int .i64 f/\v11=.int .i64 b'/\v26=.int .i64 k/\Hid (∃o vi vm vt,dq w0 (w.heap.size+1) a wn o vi vm vt/\o.In (3*(1000-f))/\((k<aM.length/\df q (room:Nat) f (aM.drop k) o=some bX)\/(k=aM.length/\b'<q.blocks.length/\df q (room:Nat) f (q.blocks.getD b' []) o=some bX))))
  case atStart=>
   obtain⟨o,vi,vm,vt,h1,h2,h3⟩:=fy.out;exact⟨0,f0,b,rfl,rfl,rfl,rfl,rfl,o,vi,vm,vt,h1,h2,.inl ⟨dB,h3⟩⟩
  case round=>
   obtain⟨k,f,b',Ca,hfk,rfl,rfl,rfl,fy⟩:=hrel;clear p0 p1 aX hold;by_cases hk:k<aM.length
   ·obtain⟨o,vi,vm,vt,hO,hI,pJ⟩:=fy.out;have HR:Hid (df q (room:Nat) f (aM.getD k ab.nil::aM.drop (k+1)) o=some bX):=by
     rcases pJ with⟨-,h⟩|⟨h,-⟩
     ·rw[HD.out k hk]at h;exact h
     ·omega
    clear pJ fy;obtain⟨gl,apl,cp,an,cn,rfl,-,AH,HL⟩:=Kk AX hk;have mw:aM.getD k ab.nil∈aM:=by simp[hk]
    have hl:=qU _ mw;have hr:=hrk _ mw;have NO:(k:Int)<(aM.length:Nat):=by omega
    generalize aM.getD k ab.nil=l at*;obtain⟨k0,k1,k2,k3,k4,k5⟩:=(HL _ hO.aZ).1;have lW:Below wr.heap.size wr (wr.alloc (.cells #[.int .i64 (l.num:Nat),.int .i64 (l.op:Nat),.slice apl l.places.length cp,.int .i64 l.number,.int .i64 l.flag,.slice an l.next.length cn] 115)):=(Below.refl _ _).alloc (jC _) _;have o7:=hO.below lW;have za:=(HL _ o7.aZ).2;have eD:(wr.alloc (.cells #[.int .i64 (l.num:Nat),.int .i64 (l.op:Nat),.slice apl l.places.length cp,.int .i64 l.number,.int .i64 l.flag,.slice an l.next.length cn] 115)).heap[wr.heap.size]?=some (.cells #[.int .i64 (l.num:Nat),.int .i64 (l.op:Nat),.slice apl l.places.length cp,.int .i64 l.number,.int .i64 l.flag,.slice an l.next.length cn] 115 (0,0)):=jD;clear mw lW;have QF:Hid (∀W W' W'',Below w0.heap.size w0 W->Below W.heap.size W W'->Below w.heap.size W' W''->Below w.heap.size w W''):=fun W W' W'' h1 h2 h3=>by
     have:=h1.size;exact Da.trans (((h1.mono (by omega)).trans (h2.mono (by omega))).trans h3)
    cases f with
    |zero=>
     have hA:bX=(2,0,o):=by have:=HR.out;rw[df]at this;exact(Option.some.inj this).symm
     have KR:=fun(W:World) (hW:dq w0 (w.heap.size+1) a W o vi vm vt)=>ff hW.eG 2 0 ((hI.sz (by omega)).ok (by omega))
     subst hA;go_wp2
     apply wp_goto
     refine hJ _ _ _ _ rfl ?_;go_wp2_with (go_at_call 66;go_fit (KR _ o7);rintro e wz ⟨rfl,vW⟩;have mg:=JL.out _ _ o7.aZ vW;have z0:wz.cell? ⟨w.heap.size,0,none⟩=some (.int .i64 0):=(by rw[cell_of_heap mg];rfl);have z1:wz.cell? ⟨w.heap.size,1,none⟩=some (.int .i64 0):=(by rw[cell_of_heap mg];rfl);have z2:wz.cell? ⟨w.heap.size,2,none⟩=some (.string ⟨#[]⟩):=(by rw[cell_of_heap mg];rfl);have z3:wz.cell? ⟨w.heap.size,3,none⟩=some (.int .i64 0):=(by rw[cell_of_heap mg];rfl);have rf:=frozen_of_heap mg;have rf0:=rf 0;have rf1:=rf 1;have rf2:=rf 2;have rf3:=rf 3;clear rf)
     try rw[Exit.noGoto_ret]
     obtain⟨e4,pH⟩:=fe mg (.int .i64 2) (.int .i64 0) (.string (bs o.yd.text)) (.int .i64 o.yd.live);refine bodyPost_ret (bZ Tryz.results44 _ _ _ w.heap.size [.int .i64 2,.int .i64 0,.string (bs o.yd.text),.int .i64 o.yd.live] _ rfl (fun j u hu=>by rw[Nat.zero_add,cell_of_heap e4];simpa using hu) Tryz.underlying47 rfl cd) rfl ?_;exact⟨rfl,QF.out _ _ _ o7.aZ vW pH⟩
    |succ f=>
     have hF0:(((f+1:Nat):Int)==0)=false:=by rw[jZ];omega
     have HN:Hid (∀o',df q (room:Nat) f (aM.drop (k+1)) o'=some bX->k+1<aM.length):=fun o' h=>by
      by_cases bg:k+1<aM.length
      ·exact bg
      ·rw[jT (by omega)]at h;cases f<;>simp[df]at h
     rcases hr.op with A9|ak|ak|ak|ak|ak|ak
     ·
      have dB:l.op≠6/\l.op≠9/\l.op≠18/\l.op≠19/\l.op≠20/\l.op≠22:=by unfold ik at A9;omega
      have b6:(((l.op:Nat):Int)==6)=false:=by rw[jZ];omega
      have b9:(((l.op:Nat):Int)==9)=false:=by rw[jZ];omega
      have b18:(((l.op:Nat):Int)==18)=false:=by rw[jZ];omega
      have b19:(((l.op:Nat):Int)==19)=false:=by rw[jZ];omega
      have rl:(((l.op:Nat):Int)==20)=false:=by rw[jZ];omega
      have b22:(((l.op:Nat):Int)==22)=false:=by rw[jZ];omega
      have eH:=HR.out;rw[df,ja dB.1,ja dB.2.1,ja (by omega),ja dB.2.2.2.2.2]at eH;have qT:o.rO l=true:=by
       cases hv:o.rO l with
       |true=>rfl
       |false=>rw[hv,ja (by decide)]at eH;cases eH
      rw[jb qT]at eH;have xJ:Hid (df q (room:Nat) f (aM.drop (k+1)) (o.cz q l)=some bX):=eH;have xP:=(hI.cz (by omega) q l (by have:=hl.number;unfold bC;omega)).mono (show 3*(1000-(f+1))+3<=3*(1000-f) by omega);have KD:=Hs o7 za hl bU A9 hI (by omega) qT ⟨LM.aM,⟨_,LM.locals⟩⟩ hr.hl Ix (by omega);clear HR eH qT dB A9;generalize o.cz q l=o2 at*;go_wp2_with (go_at_call 65;go_fit KD;rintro e w1 ⟨rfl,vi2,vm2,vt2,gF,r2⟩)
      go_roundg (aM.length-(k+1))
      case measure=>omega
      case rel=>exact⟨k+1,f,b',by omega,by omega,by go_num,rfl,by go_num,o2,vi2,vm2,vt2,gF,xP,.inl ⟨HN.out _ xJ.out,xJ.out⟩⟩
     ·
      have b6:(((l.op:Nat):Int)==6)=true:=by rw[beq_iff_eq];omega
      have b9:(((l.op:Nat):Int)==9)=false:=by rw[jZ];omega
      have b18:(((l.op:Nat):Int)==18)=false:=by rw[jZ];omega
      have b19:(((l.op:Nat):Int)==19)=false:=by rw[jZ];omega
      have rl:(((l.op:Nat):Int)==20)=false:=by rw[jZ];omega
      have b22:(((l.op:Nat):Int)==22)=false:=by rw[jZ];omega
      have hlen:l.places.length=3:=by rw[hl.bt,ak];rfl
      obtain⟨g,rfl,gP,hg,c1,c2⟩:=ax za hlen 2 (by omega);have hx:=(hl.places (l.places.getD 2 (0,0)) (by simp[hlen])).1;have eH:=HR.out;rw[df,jb ak]at eH;have KC:=fun(W:World) (hb:Below (wr.alloc (.cells #[.int .i64 (l.num:Nat),.int .i64 (l.op:Nat),.slice (some ⟨g,0,none⟩) l.places.length cp,.int .i64 l.number,.int .i64 l.flag,.slice an l.next.length cn] 115)).heap.size (wr.alloc (.cells #[.int .i64 (l.num:Nat),.int .i64 (l.op:Nat),.slice (some ⟨g,0,none⟩) l.places.length cp,.int .i64 l.number,.int .i64 l.flag,.slice an l.next.length cn] 115)) W) (hz:¬o.num (ag l 2)=0)=>gH (o7.below hb) (aC.below za hb) hl bU (.inr (.inr (.inr ak))) (fun _=>hz) hI.jr
      have hC:Hid (({o with ints:=o.ints.set (ab.pl l 0).1 (ml l.op (o.num (ab.pl l 1)) (o.num (ab.pl l 2)))}:Own)=o.calc l):=rfl;rw[hC.out]at KC;have KN:=fS o7 (l.places.getD 2 (0,0)) (by omega);have xP:(o.calc l).In (3*(1000-f)):=(hI.setInt _ (yD _ _ _)).mono (show 3*(1000-(f+1))<=3*(1000-f) by omega);rw[hlen]at o7 za eD c1 c2 KC KN;rw[hlen]at k2;have ee:ag l 2=l.places.getD 2 (0,0):=rfl;rw[ee]at eH KC;clear ee hC;generalize l.places.getD 2 (0,0)=p2 at*;by_cases hz:o.num p2=0
      ·have hzb:(o.num p2==0)=true:=by rw[hz];rfl
       rw[jb hz]at eH;have hA:bX=(4,0,o):=(Option.some.inj eH).symm;subst hA;have KR:=fun(W:World) (hW:dq w0 (w.heap.size+1) a W o vi vm vt)=>ff hW.eG 4 0 ((hI.sz (by omega)).ok (by omega))
       clear HR eH hz KC hlen ak;generalize o.num p2=n2 at*;go_wp2_with (go_at_call 58;go_fit KN;rintro e w1 ⟨rfl,h1⟩;have eJ:=o7.below h1)
       apply wp_goto
       refine hJ _ _ _ _ rfl ?_;go_wp2_with (go_at_call 66;go_fit (KR _ eJ);rintro e wz ⟨rfl,vW⟩;have mg:=JL.out _ _ eJ.aZ vW;have z0:wz.cell? ⟨w.heap.size,0,none⟩=some (.int .i64 0):=(by rw[cell_of_heap mg];rfl);have z1:wz.cell? ⟨w.heap.size,1,none⟩=some (.int .i64 0):=(by rw[cell_of_heap mg];rfl);have z2:wz.cell? ⟨w.heap.size,2,none⟩=some (.string ⟨#[]⟩):=(by rw[cell_of_heap mg];rfl);have z3:wz.cell? ⟨w.heap.size,3,none⟩=some (.int .i64 0):=(by rw[cell_of_heap mg];rfl);have rf:=frozen_of_heap mg;have rf0:=rf 0;have rf1:=rf 1;have rf2:=rf 2;have rf3:=rf 3;clear rf)
       try rw[Exit.noGoto_ret]
       obtain⟨e4,pH⟩:=fe mg (.int .i64 4) (.int .i64 0) (.string (bs o.yd.text)) (.int .i64 o.yd.live);refine bodyPost_ret (bZ Tryz.results44 _ _ _ w.heap.size [.int .i64 4,.int .i64 0,.string (bs o.yd.text),.int .i64 o.yd.live] _ rfl (fun j u hu=>by rw[Nat.zero_add,cell_of_heap e4];simpa using hu) Tryz.underlying47 rfl cd) rfl ?_;exact⟨rfl,QF.out _ _ _ eJ.aZ vW pH⟩
      ·have hzb:(o.num p2==0)=false:=by rw[jZ];exact hz
       rw[ja hz]at eH;have xJ:Hid (df q (room:Nat) f (aM.drop (k+1)) (o.calc l)=some bX):=eH;have Zl:=fun W hb=>KC W hb hz
       clear HR eH hz KC hlen ak;generalize o.num p2=n2 at*;generalize o.calc l=o2 at*;go_wp2_with (first
        |(go_at_call 58;go_fit KN;rintro e w1 ⟨rfl,h1⟩;have cu:=(h1.block _ (lt_of_heap eD)).trans eD;have m0:w1.cell? ⟨wr.heap.size,0,none⟩=_:=cell_of_heap cu 0;have m1:w1.cell? ⟨wr.heap.size,1,none⟩=_:=cell_of_heap cu 1;have m2:w1.cell? ⟨wr.heap.size,2,none⟩=_:=cell_of_heap cu 2;have m3:w1.cell? ⟨wr.heap.size,3,none⟩=_:=cell_of_heap cu 3;have m4:w1.cell? ⟨wr.heap.size,4,none⟩=_:=cell_of_heap cu 4;have m5:w1.cell? ⟨wr.heap.size,5,none⟩=_:=cell_of_heap cu 5;simp at m0 m1 m2 m3 m4 m5)
        |(go_at_call 59;go_fit (Zl _ h1);rintro e w2 ⟨rfl,gF,r2⟩))
       go_roundg (aM.length-(k+1))
       case measure=>omega
       case rel=>exact⟨k+1,f,b',by omega,by omega,by go_num,rfl,by go_num,o2,vi,vm,vt,gF,xP,.inl ⟨HN.out _ xJ.out,xJ.out⟩⟩
     ·
      have b6:(((l.op:Nat):Int)==6)=false:=by rw[jZ];omega
      have b9:(((l.op:Nat):Int)==9)=true:=by rw[beq_iff_eq];omega
      have b18:(((l.op:Nat):Int)==18)=false:=by rw[jZ];omega
      have b19:(((l.op:Nat):Int)==19)=false:=by rw[jZ];omega
      have rl:(((l.op:Nat):Int)==20)=false:=by rw[jZ];omega
      have b22:(((l.op:Nat):Int)==22)=false:=by rw[jZ];omega
      have hlen:l.places.length=2:=by rw[hl.bt,ak];rfl
      obtain⟨g,rfl,gP,hg,-,-⟩:=ax za hlen 0 (by omega);have xY:=(hl.places (l.places.getD 0 (0,0)) (by simp[hlen])).1;have j6:=(hl.places (l.places.getD 1 (0,0)) (by simp[hlen])).1;have PC:Hid (∀W,Below w0.heap.size w0 W->W.cell? ⟨g,0,none⟩=some (.int .i64 ((l.places.getD 0 (0,0)).1:Nat))/\W.cell? ⟨g,1,none⟩=some (.int .i64 ((l.places.getD 0 (0,0)).2:Nat))/\W.cell? ⟨g,2,none⟩=some (.int .i64 ((l.places.getD 1 (0,0)).1:Nat))/\W.cell? ⟨g,3,none⟩=some (.int .i64 ((l.places.getD 1 (0,0)).2:Nat))):=fun W hW=>by
       have hp:=(HL W hW).2.places;exact⟨(aV hp (j:=0) (by omega)).1,(aV hp (j:=0) (by omega)).2,(aV hp (j:=1) (by omega)).1,(aV hp (j:=1) (by omega)).2⟩
      have eH:=HR.out;rw[df,ja (by omega),jb ak]at eH;have e0:ag l 0=l.places.getD 0 (0,0):=rfl;have e1:ag l 1=l.places.getD 1 (0,0):=rfl;rw[e0,e1]at eH;obtain⟨c0,c1,c2,c3⟩:=PC.out _ o7.aZ;rw[hlen]at o7 za eD c0 c1 c2 c3;rw[hlen]at k2;clear e0 e1 HR ak;generalize l.places.getD 0 (0,0)=p0 at*;generalize l.places.getD 1 (0,0)=p1 at*;have QO:Below (wr.alloc (.cells #[.int .i64 (l.num:Nat),.int .i64 (l.op:Nat),.slice (some ⟨g,0,none⟩) 2 cp,.int .i64 l.number,.int .i64 l.flag,.slice an l.next.length cn] 115)).heap.size (wr.alloc (.cells #[.int .i64 (l.num:Nat),.int .i64 (l.op:Nat),.slice (some ⟨g,0,none⟩) 2 cp,.int .i64 l.number,.int .i64 l.flag,.slice an l.next.length cn] 115)) ((wr.alloc (.cells #[.int .i64 (l.num:Nat),.int .i64 (l.op:Nat),.slice (some ⟨g,0,none⟩) 2 cp,.int .i64 l.number,.int .i64 l.flag,.slice an l.next.length cn] 115)).alloc (.cells #[.int .i64 (p0.1:Nat),.int .i64 (p0.2:Nat)] 119)):=(Below.refl _ _).alloc (jC _) _;have hOP:=o7.below QO;have KD:=pr hOP (gQ (wr.alloc (.cells #[.int .i64 (l.num:Nat),.int .i64 (l.op:Nat),.slice (some ⟨g,0,none⟩) 2 cp,.int .i64 l.number,.int .i64 l.flag,.slice an l.next.length cn] 115)) p0 (n:=wr.heap.size+1) (by simp)) (fun y hy=>by simp only[List.mem_singleton]at hy;subst hy;omega) (by simp) hI.bx (hI.sz (by omega)) (by simp;omega) Ix (by omega);have QL:=hI.drop [p0] (by simp;omega);have Pd:(o.drop [p0]).num p1=o.num p1:=by unfold Own.num;rw[(cL [p0] o).2.1]
      have HNW:Hid (o.num p1=(o.drop [p0]).num p1):=Pd.symm;rw[HNW.out]at eH;clear hlen Pd HNW;generalize o.drop [p0]=o1 at*;by_cases lf:o1.yd.live≥(room:Nat)
      ·rw[jb lf]at eH;have hA:bX=(3,0,o1):=(Option.some.inj eH).symm;subst hA;have KR:=fun(W:World) (vm vt:Value) (hW:dq w0 (w.heap.size+1) a W o1 vi vm vt)=>ff hW.eG 3 0 ((QL.sz (by simp;omega)).ok (by simp;omega))
       have RG:decide ((room:Int)<=o1.yd.live)=true:=decide_eq_true lf;clear eH;go_wp2_with (go_at_call 60;go_fit KD;rintro e w2 ⟨rfl,vm2,vt2,gF,r2⟩;obtain⟨f0,f1,f2,-⟩:=gF.eG.facts)
       apply wp_goto
       refine hJ _ _ _ _ rfl ?_;go_wp2_with (go_at_call 66;go_fit (KR _ _ _ gF);rintro e wz ⟨rfl,vW⟩;have mg:=JL.out _ _ gF.aZ vW;have z0:wz.cell? ⟨w.heap.size,0,none⟩=some (.int .i64 0):=(by rw[cell_of_heap mg];rfl);have z1:wz.cell? ⟨w.heap.size,1,none⟩=some (.int .i64 0):=(by rw[cell_of_heap mg];rfl);have z2:wz.cell? ⟨w.heap.size,2,none⟩=some (.string ⟨#[]⟩):=(by rw[cell_of_heap mg];rfl);have z3:wz.cell? ⟨w.heap.size,3,none⟩=some (.int .i64 0):=(by rw[cell_of_heap mg];rfl);have rf:=frozen_of_heap mg;have rf0:=rf 0;have rf1:=rf 1;have rf2:=rf 2;have rf3:=rf 3;clear rf)
       try rw[Exit.noGoto_ret]
       obtain⟨e4,pH⟩:=fe mg (.int .i64 3) (.int .i64 0) (.string (bs o1.yd.text)) (.int .i64 o1.yd.live);refine bodyPost_ret (bZ Tryz.results44 _ _ _ w.heap.size [.int .i64 3,.int .i64 0,.string (bs o1.yd.text),.int .i64 o1.yd.live] _ rfl (fun j u hu=>by rw[Nat.zero_add,cell_of_heap e4];simpa using hu) Tryz.underlying47 rfl cd) rfl ?_;exact⟨rfl,QF.out _ _ _ gF.aZ vW pH⟩
      ·rw[ja lf]at eH;have xJ:Hid (df q (room:Nat) f (aM.drop (k+1)) (o1.new p0 (o1.num p1))=some bX):=eH;have xP:=(QL.new (by simp;omega) p0 (QL.num p1)).mono (show 3*(1000-(f+1))+[p0].length+1<=3*(1000-f) by simp;omega);have RG:decide ((room:Int)<=o1.yd.live)=false:=decide_eq_false lf;have hfl':o1.yd.live<(room:Int):=by omega
       clear eH lf;have XS:o1.yd.Ok:=(QL.sz (by simp;omega)).ok (by simp;omega);go_upto_region 18 with(go_at_call 60;go_fit KD;rintro e w2 ⟨rfl,vm2,vt2,gF,r2⟩;obtain⟨f0,f1,f2,-⟩:=gF.eG.facts)
       have T7:=gF.drew;have hr0:aA (w.heap.size+1) vm2 vt2 w2 vm2 vt2 w2.drew:=aA.of (ic w2);obtain⟨d0,d1,d2,d3⟩:=PC.out _ gF.aZ;have lH:ae p0<24:=by unfold ae;split<;>omega
       have NR:(ae p0:Int)<24:=by omega
       have kp:bC (o1.num p1):=QL.num p1;have KS:=fun(W:World)=>dc p0 W (by omega)
       have KN:=fun(W:World) (hW:dq w0 (w.heap.size+1) a W o1 vi vm2 vt2)=>fS hW p1 (by omega)
       have KB:=fun(W:World) (hW:dq w0 (w.heap.size+1) a W o1 vi vm2 vt2)=>BO hW.eG (o1.num p1) (Ix.below hW.aZ (by omega)) XS (by omega)
       have hgx:g≠w.heap.size+1:=fun e=>by
        have h1:=gF.eG.aM;rw[<-e]at h1;exact aP (HL _ gF.aZ).2.places h1 (by decide) rfl
       have R6:w.heap.size+1≠g:=fun e=>hgx e.symm
       have hE:Hid (({o1 with yd:=o1.yd.build (o1.num p1),boxes:=o1.boxes.set (ae p0) (o1.yd.made.length+1)}:Own)=o1.new p0 (o1.num p1)):=rfl;clear KD XS;generalize o1.num p1=n1 at*;generalize ae p0=sl at*;go_region_held3 (fun W=>W.cell? ⟨g,0,none⟩=some (.int .i64 (p0.1:Nat))/\W.cell? ⟨g,1,none⟩=some (.int .i64 (p0.2:Nat))/\W.cell? ⟨g,2,none⟩=some (.int .i64 (p1.1:Nat))/\W.cell? ⟨g,3,none⟩=some (.int .i64 (p1.2:Nat))) (go_keep)
        (first
        |(go_at_call 62;go_fit (KS wB);rintro e w6 ⟨rfl,h6⟩;have Wi:=hF.below h6;have rF2:=rF.trans (aA.of h6);obtain⟨x0,x1,x2,x3⟩:=PC.out _ Wi.aZ;obtain⟨i1,i2⟩:=Wi.bx (j:=sl) lH;have hZ:=Wi;have rZ:=rF2)
        |(go_at_call 62;go_fit (KS wN);rintro e w5 ⟨rfl,h5⟩;have Wr:=YP.below h5;have rC:=rN.trans (aA.of h5);obtain⟨x0,x1,x2,x3⟩:=PC.out _ Wr.aZ)
        |(go_at_call 62;go_fit (KS w2.drew);rintro e wS ⟨rfl,h5⟩;have ZP:=T7.below h5;have rS:=hr0.trans (aA.of h5);obtain⟨x0,x1,x2,x3⟩:=PC.out _ ZP.aZ)
        |(go_at_call 58;go_fit (KN _ ZP);rintro e w4 ⟨rfl,h4⟩;have Wr:=ZP.below h4;have rC:=rS.trans (aA.of h4);obtain⟨y0,y1,y2,y3⟩:=PC.out _ Wr.aZ)
        |(go_at_call 58;go_fit (KN _ T7);rintro e wN ⟨rfl,h4⟩;have YP:=T7.below h4;have rN:=hr0.trans (aA.of h4);obtain⟨y0,y1,y2,y3⟩:=PC.out _ YP.aZ)
        |(go_at_call 61;go_fit (KB _ Wr);rintro e wC ⟨rfl,vm3,vt3,hy3,r3⟩;have hZ:=Wr.qe hy3 r3;have rZ:=rC.trans r3;obtain⟨z0,z1,z2,z3⟩:=PC.out _ hZ.aZ;obtain⟨i1,i2⟩:=hZ.bx (j:=sl) lH)
        |(go_at_call 61;go_fit (KB _ YP);rintro e wB ⟨rfl,vm3,vt3,hy3,r3⟩;have hF:=YP.qe hy3 r3;have rF:=rN.trans r3;obtain⟨z0,z1,z2,z3⟩:=PC.out _ hF.aZ;obtain⟨i1,i2⟩:=hF.bx (j:=sl) lH))
       all_goals go_wp2_with fail
       all_goals
        obtain⟨h7,r7⟩:=hZ.Qi sl (o1.yd.made.length+1);have h8:=h7;rw[hE.out]at h8;go_roundg (aM.length-(k+1))
        case measure=>omega
        case rel=>exact⟨k+1,f,b',by omega,by omega,by go_num,rfl,by go_num,o1.new p0 n1,vi,vm3,vt3,h8,xP,.inl ⟨HN.out _ xJ.out,xJ.out⟩⟩
     ·
      have b6:(((l.op:Nat):Int)==6)=false:=by rw[jZ];omega
      have b9:(((l.op:Nat):Int)==9)=false:=by rw[jZ];omega
      have b18:(((l.op:Nat):Int)==18)=true:=by rw[beq_iff_eq];omega
      have b19:(((l.op:Nat):Int)==19)=false:=by rw[jZ];omega
      have rl:(((l.op:Nat):Int)==20)=false:=by rw[jZ];omega
      have b22:(((l.op:Nat):Int)==22)=false:=by rw[jZ];omega
      have eH:=HR.out;rw[df,ja (by omega),ja (by omega),jb (by omega)]at eH;have oz:aM.drop (k+1)=[]:=by
       by_cases iP:aM.drop (k+1)=[]
       ·exact iP
       ·rw[ja iP]at eH;cases eH
      have D4:k+1=aM.length:=by have:=List.drop_eq_nil_iff.mp oz;omega
      rw[jb oz]at eH;have lg:(if o.other l then 1 else 0)<l.next.length:=by
       have h1:l.next.length=1:=by rw[hl.pa,ak];rfl
       rw[h1];have ho:o.other l=false:=(by rw[Own.other,ja (by omega),ja (by omega)]);rw[ho];decide
      have KX:=pU o7 za hl bU (.inl ak) lg;have G1:l.next.getD (if o.other l then 1 else 0) 0<q.blocks.length:=hl.next _ (by rw[jA,jB lg];exact jL _);have xJ:Hid (df q (room:Nat) f (q.blocks.getD (l.next.getD (if o.other l then 1 else 0) 0) []) o=some bX):=eH;have xP:=hI.mono (show 3*(1000-(f+1))<=3*(1000-f) by omega);clear HR eH oz lg ak;generalize l.next.getD (if o.other l then 1 else 0) 0=bn at*;go_wp2_with (go_at_call 63;go_fit KX;rintro e w1 ⟨rfl,h1⟩)
      go_roundg (aM.length-(k+1))
      case measure=>omega
      case rel=>exact⟨k+1,f,bn,by omega,by omega,by go_num,rfl,by go_num,o,vi,vm,vt,o7.below h1,xP,.inr ⟨D4,G1,xJ.out⟩⟩
     ·
      have b6:(((l.op:Nat):Int)==6)=false:=by rw[jZ];omega
      have b9:(((l.op:Nat):Int)==9)=false:=by rw[jZ];omega
      have b18:(((l.op:Nat):Int)==18)=false:=by rw[jZ];omega
      have b19:(((l.op:Nat):Int)==19)=true:=by rw[beq_iff_eq];omega
      have rl:(((l.op:Nat):Int)==20)=false:=by rw[jZ];omega
      have b22:(((l.op:Nat):Int)==22)=false:=by rw[jZ];omega
      have eH:=HR.out;rw[df,ja (by omega),ja (by omega),jb (by omega)]at eH;have oz:aM.drop (k+1)=[]:=by
       by_cases iP:aM.drop (k+1)=[]
       ·exact iP
       ·rw[ja iP]at eH;cases eH
      have D4:k+1=aM.length:=by have:=List.drop_eq_nil_iff.mp oz;omega
      rw[jb oz]at eH;have lg:(if o.other l then 1 else 0)<l.next.length:=by
       have h1:l.next.length=2:=by rw[hl.pa,ak];rfl
       rw[h1];split<;>omega
      have KX:=pU o7 za hl bU (.inr (.inl ak)) lg;have G1:l.next.getD (if o.other l then 1 else 0) 0<q.blocks.length:=hl.next _ (by rw[jA,jB lg];exact jL _);have xJ:Hid (df q (room:Nat) f (q.blocks.getD (l.next.getD (if o.other l then 1 else 0) 0) []) o=some bX):=eH;have xP:=hI.mono (show 3*(1000-(f+1))<=3*(1000-f) by omega);clear HR eH oz lg ak;generalize l.next.getD (if o.other l then 1 else 0) 0=bn at*;go_wp2_with (go_at_call 63;go_fit KX;rintro e w1 ⟨rfl,h1⟩)
      go_roundg (aM.length-(k+1))
      case measure=>omega
      case rel=>exact⟨k+1,f,bn,by omega,by omega,by go_num,rfl,by go_num,o,vi,vm,vt,o7.below h1,xP,.inr ⟨D4,G1,xJ.out⟩⟩
     ·
      have b6:(((l.op:Nat):Int)==6)=false:=by rw[jZ];omega
      have b9:(((l.op:Nat):Int)==9)=false:=by rw[jZ];omega
      have b18:(((l.op:Nat):Int)==18)=false:=by rw[jZ];omega
      have b19:(((l.op:Nat):Int)==19)=false:=by rw[jZ];omega
      have rl:(((l.op:Nat):Int)==20)=true:=by rw[beq_iff_eq];omega
      have b22:(((l.op:Nat):Int)==22)=false:=by rw[jZ];omega
      have eH:=HR.out;rw[df,ja (by omega),ja (by omega),jb (by omega)]at eH;have oz:aM.drop (k+1)=[]:=by
       by_cases iP:aM.drop (k+1)=[]
       ·exact iP
       ·rw[ja iP]at eH;cases eH
      have D4:k+1=aM.length:=by have:=List.drop_eq_nil_iff.mp oz;omega
      rw[jb oz]at eH;have lg:(if o.other l then 1 else 0)<l.next.length:=by
       have h1:l.next.length=2:=by rw[hl.pa,ak];rfl
       rw[h1];split<;>omega
      have KX:=pU o7 za hl bU (.inr (.inr ak)) lg;have G1:l.next.getD (if o.other l then 1 else 0) 0<q.blocks.length:=hl.next _ (by rw[jA,jB lg];exact jL _);have xJ:Hid (df q (room:Nat) f (q.blocks.getD (l.next.getD (if o.other l then 1 else 0) 0) []) o=some bX):=eH;have xP:=hI.mono (show 3*(1000-(f+1))<=3*(1000-f) by omega);clear HR eH oz lg ak;generalize l.next.getD (if o.other l then 1 else 0) 0=bn at*;go_wp2_with (go_at_call 63;go_fit KX;rintro e w1 ⟨rfl,h1⟩)
      go_roundg (aM.length-(k+1))
      case measure=>omega
      case rel=>exact⟨k+1,f,bn,by omega,by omega,by go_num,rfl,by go_num,o,vi,vm,vt,o7.below h1,xP,.inr ⟨D4,G1,xJ.out⟩⟩
     ·
      have b6:(((l.op:Nat):Int)==6)=false:=by rw[jZ];omega
      have b9:(((l.op:Nat):Int)==9)=false:=by rw[jZ];omega
      have b18:(((l.op:Nat):Int)==18)=false:=by rw[jZ];omega
      have b19:(((l.op:Nat):Int)==19)=false:=by rw[jZ];omega
      have rl:(((l.op:Nat):Int)==20)=false:=by rw[jZ];omega
      have b22:(((l.op:Nat):Int)==22)=true:=by rw[beq_iff_eq];omega
      have hlen:l.places.length=1:=by rw[hl.bt,ak];rfl
      obtain⟨g,rfl,gP,hg,c1,c2⟩:=ax za hlen 0 (by omega);have hx:=(hl.places (l.places.getD 0 (0,0)) (by simp[hlen])).1;have jy:0<q.locals.length:=by omega
      have eH:=HR.out;rw[df,ja (by omega),ja (by omega),ja (by omega),jb ak]at eH;have KN:=fS o7 (l.places.getD 0 (0,0)) (by omega);rw[hlen]at o7 za eD c1 c2 KN;rw[hlen]at k2;have hA:bX=(1,o.num (l.places.getD 0 (0,0)),o.dt q q.locals.length):=(Option.some.inj eH).symm;have HA:Hid (bX=(1,o.num (l.places.getD 0 (0,0)),o.dt q q.locals.length)):=hA;clear hA;have KA:=fun(W:World) (hW:dq w0 (w.heap.size+1) a W o vi vm vt)=>Ew hW ⟨LM.aM,⟨_,LM.locals⟩⟩ jy bU hI (by omega) Ix (by omega)
      have xP:=hI.dt q q.locals.length (by omega);have KR:=fun(n:Int) (W:World) (vm vt:Value) (hW:dq w0 (w.heap.size+1) a W (o.dt q q.locals.length) vi vm vt)=>ff hW.eG 1 n ((xP.sz (by omega)).ok (by omega))
      clear HR eH hlen ak;generalize l.places.getD 0 (0,0)=p0 at*;generalize o.num p0=n0 at*;generalize o.dt q q.locals.length=o2 at*;go_wp2_with (first
       |(go_at_call 58;go_fit KN;rintro e w1 ⟨rfl,h1⟩;have eJ:=o7.below h1)
       |(go_at_call 64;go_fit (KA _ eJ);rintro e w2 ⟨rfl,vm2,vt2,gF,r2⟩))
      apply wp_goto
      refine hJ _ _ _ _ rfl ?_;go_wp2_with (go_at_call 66;go_fit (KR _ _ _ _ gF);rintro e wz ⟨rfl,vW⟩;have mg:=JL.out _ _ gF.aZ vW;have z0:wz.cell? ⟨w.heap.size,0,none⟩=some (.int .i64 0):=(by rw[cell_of_heap mg];rfl);have z1:wz.cell? ⟨w.heap.size,1,none⟩=some (.int .i64 0):=(by rw[cell_of_heap mg];rfl);have z2:wz.cell? ⟨w.heap.size,2,none⟩=some (.string ⟨#[]⟩):=(by rw[cell_of_heap mg];rfl);have z3:wz.cell? ⟨w.heap.size,3,none⟩=some (.int .i64 0):=(by rw[cell_of_heap mg];rfl);have rf:=frozen_of_heap mg;have rf0:=rf 0;have rf1:=rf 1;have rf2:=rf 2;have rf3:=rf 3;clear rf)
      try rw[Exit.noGoto_ret]
      obtain⟨e4,pH⟩:=fe mg (.int .i64 1) (.int .i64 n0) (.string (bs o2.yd.text)) (.int .i64 o2.yd.live);refine bodyPost_ret (bZ Tryz.results44 _ _ _ w.heap.size [.int .i64 1,.int .i64 n0,.string (bs o2.yd.text),.int .i64 o2.yd.live] _ rfl (fun j u hu=>by rw[Nat.zero_add,cell_of_heap e4];simpa using hu) Tryz.underlying47 rfl cd) rfl ?_;exact⟨by rw[HA.out];rfl,QF.out _ _ _ gF.aZ vW pH⟩
   ·have hk:k=aM.length:=by omega
    subst hk;obtain⟨o,vi,vm,vt,hO,hI,pJ⟩:=fy.out;have E4:b'<q.blocks.length/\Hid (df q (room:Nat) f (q.blocks.getD b' []) o=some bX):=by
     rcases pJ with⟨h,-⟩|⟨-,h1,h2⟩
     ·omega
     ·exact⟨h1,h2⟩
    clear fy pJ;go_wp2
    go_roundg (f+1)
    case measure=>omega
    case rel=>exact⟨f,b',rfl,by omega,rfl,rfl,E4.1,o,vi,vm,vt,hO,hI,E4.2.out⟩
end
end Own
end Go.Proofs.YtmlgajhhnojdjaaGreatDoor

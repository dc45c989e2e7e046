import Derived.Test.YtmlgajhhnojdjaaGreatDoorRBJ
namespace Go.Proofs.YtmlgajhhnojdjaaGreatDoor
namespace Mac
open Go Go.RowKit Sq Aux Go.Proofs.YtmlgajhhnojdjaaGreatDoor.Own
def rowAt (w:World):Value->Array Value
 | .pointer (some ad)=>((List.range 24).map fun j=>(w.cell? ⟨ad.block,ad.off+j,none⟩).getD undef).toArray
 |_=> #[]
def Ac (w:World)(v:Value):Prop:=∃b off cs,v=.pointer (some ⟨b,off,none⟩)/\cs.length=24/\w.rangeAt b off cs/\rowAt w v=cs.toArray
theorem Ta {w:World}{b off:Nat}{cs:List Value}(hl:cs.length=24)(h:∀j,j<24->w.cell? ⟨b,off+j,none⟩=cs[j]?):rowAt w (.pointer (some ⟨b,off,none⟩))=cs.toArray/\Ac w (.pointer (some ⟨b,off,none⟩)):=by
 have e:rowAt w (.pointer (some ⟨b,off,none⟩))=cs.toArray:=by
  show((List.range 24).map fun j=>(w.cell? ⟨b,off+j,none⟩).getD undef).toArray=_
  congr 1;apply List.ext_getElem?
  intro n;rw[jJ];by_cases hn:n<24
  ·rw[List.getElem?_range hn,Option.map_some,h n hn,jB (by omega)];rfl
  ·rw[jG (by simp;omega),jG (by omega)];rfl
 refine⟨e,b,off,cs,rfl,hl,fun j v hv=> ?_,e⟩;have hj:j<24:=by
  rw[<-hl];exact(List.getElem?_eq_some_iff.1 hv).1
 rw[h j hj];exact hv
section
variable (d:Option Tmp) (x:Operand) (t:TypeId) (ps:String) (af:Array Edge) (g:Option (Nat×Bool)) (a:Act) (w:World) (K:Act->World->Prop) (Q:Exit->Act->World->Prop)
theorem Dj:(Tryz.prog.info? 89).map (·.size)=some 24:=by kernel_rfl
theorem GZ:(Tryz.prog.info? 90).map (·.size)=some 24:=by kernel_rfl
theorem Fs (h:Ac w (a.eval x)):Oper.wp Tryz.prog {dst:=d,op:=Op.load 89 x,type:=t,pos:=ps,after:=af,guard:=g} a w K Q=K (a.put d (.agg (rowAt w (a.eval x)))) w:=by
 obtain⟨b,off,cs,hb,hl,hr,he⟩:=h;have:=run_loadVar_mid (P:=Tryz.prog) w b off 89 cs _ hr Tryz.underlying89 rfl (by rw[hl];exact Dj);rw[he];unfold Oper.wp execOp;simp only[hb,Instr.loadAt,Instr.sureAddr,Sem.run_bind,Sem.run_pure,Result.andThen_ok,this];rfl
theorem Ji (h:Ac w (a.eval x)):Oper.wp Tryz.prog {dst:=d,op:=Op.load 90 x,type:=t,pos:=ps,after:=af,guard:=g} a w K Q=K (a.put d (.agg (rowAt w (a.eval x)))) w:=by
 obtain⟨b,off,cs,hb,hl,hr,he⟩:=h;have:=run_loadVar_mid (P:=Tryz.prog) w b off 90 cs _ hr Tryz.underlying90 rfl (by rw[hl];exact GZ);rw[he];unfold Oper.wp execOp;simp only[hb,Instr.loadAt,Instr.sureAddr,Sem.run_bind,Sem.run_pure,Result.andThen_ok,this];rfl
end
def mP (b:Fin 3):List Value:=List.replicate 24 (if b=0 then .int .i64 0 else .int .u8 0)
theorem BJ (w:World):(Instr.alloc 89 true (.tuple #[])).run Tryz.prog w=.ok (.pointer (some ⟨w.heap.size,0,none⟩)) (w.alloc (.cells (mP 0).toArray (Cw 0))):=by
 kernel_rfl
theorem CB (w:World):(Instr.alloc 90 true (.tuple #[])).run Tryz.prog w=.ok (.pointer (some ⟨w.heap.size,0,none⟩)) (w.alloc (.cells (mP 1).toArray (Cw 1))):=by
 kernel_rfl
def DY (w:World)(v:Value):Prop:=∃b,v=.pointer (some ⟨b,0,none⟩)/\w.there b 0 24
def zO (v:Value):Prop:=∃xs:List Value,v=.agg xs.toArray/\xs.length=24/\∀u∈xs,u.oneCell'=true
section
variable (d:Option Tmp) (x y:Operand) (t:TypeId) (ps:String) (af:Array Edge) (g:Option (Nat×Bool)) (a:Act) (w:World) (K:Act->World->Prop) (Q:Exit->Act->World->Prop)
theorem CK:Oper.wp Tryz.prog {dst:=d,op:=Op.alloc 89,type:=t,pos:=ps,after:=af,guard:=g} a w K Q=K (a.put d (.pointer (some ⟨w.heap.size,0,none⟩))) (w.alloc (.cells (mP 0).toArray (Cw 0))):=by
 have:=BJ w;unfold Oper.wp execOp;simp only[Sem.run_bind,Sem.run_pure,Result.andThen_ok,this];rfl
theorem Fo:Oper.wp Tryz.prog {dst:=d,op:=Op.alloc 90,type:=t,pos:=ps,after:=af,guard:=g} a w K Q=K (a.put d (.pointer (some ⟨w.heap.size,0,none⟩))) (w.alloc (.cells (mP 1).toArray (Cw 1))):=by
 have:=CB w;unfold Oper.wp execOp;simp only[Sem.run_bind,Sem.run_pure,Result.andThen_ok,this];rfl
theorem CM (h:DY w (a.eval x))(h':zO (a.eval y)):Oper.wp Tryz.prog {dst:=d,op:=Op.store 89 x y,type:=t,pos:=ps,after:=af,guard:=g} a w K Q=K (a.put d undef) (w.setCells (MB (a.eval x)) 0 (JE (a.eval y))):=by
 obtain⟨b,hb,hh⟩:=h;obtain⟨xs,hy,hl,ho⟩:=h';have:=run_storeAt_mid (P:=Tryz.prog) w b 0 89 xs.toArray (by rw[List.size_toArray,hl];exact hh) (by rw[List.size_toArray,hl];exact Dj) (all_oneCell_toArray ho);unfold Oper.wp execOp;simp only[hb,hy,Sem.run_bind,Sem.run_pure,Result.andThen_ok,this];rfl
theorem Ft (h:DY w (a.eval x))(h':zO (a.eval y)):Oper.wp Tryz.prog {dst:=d,op:=Op.store 90 x y,type:=t,pos:=ps,after:=af,guard:=g} a w K Q=K (a.put d undef) (w.setCells (MB (a.eval x)) 0 (JE (a.eval y))):=by
 obtain⟨b,hb,hh⟩:=h;obtain⟨xs,hy,hl,ho⟩:=h';have:=run_storeAt_mid (P:=Tryz.prog) w b 0 90 xs.toArray (by rw[List.size_toArray,hl];exact hh) (by rw[List.size_toArray,hl];exact GZ) (all_oneCell_toArray ho);unfold Oper.wp execOp;simp only[hb,hy,Sem.run_bind,Sem.run_pure,Result.andThen_ok,this];rfl
end
theorem sr (b:Fin 3):(mP b).length=24:=by simp[mP]
theorem IS (w:World)(b:Fin 3):DY (w.alloc (.cells (mP b).toArray (Cw b))) (.pointer (some ⟨w.heap.size,0,none⟩)):=by
 refine⟨_,rfl,fun j hj=> ?_⟩;have h:(w.alloc (.cells (mP b).toArray (Cw b))).heap[w.heap.size]?=some (.cells (mP b).toArray (Cw b) (0,0)):=jD;refine⟨?_,frozen_of_heap h _⟩;rw[cell_of_heap h,Nat.zero_add];simp only[List.getElem?_toArray];rw[jB (by rw[sr];exact hj)];rfl
theorem Nf (w:World)(b:Fin 3)(cs:List Value)(hl:cs.length=24):((w.alloc (.cells (mP b).toArray (Cw b))).setCells w.heap.size 0 cs).heap[w.heap.size]?=some (.cells cs.toArray (Cw b) (0,0))/\Below w.heap.size w ((w.alloc (.cells (mP b).toArray (Cw b))).setCells w.heap.size 0 cs):=by
 have h:(w.alloc (.cells (mP b).toArray (Cw b))).heap[w.heap.size]?=some (.cells (mP b).toArray (Cw b) (0,0)):=jD;refine⟨?_,az ((Below.refl _ _).alloc (jC _) _) (jC _) _ _⟩;obtain⟨cs',h1,h2,h3⟩:=eL w.heap.size cs 0 _ _ _ _ h;have e:cs'=cs.toArray:=by
  apply Array.ext_getElem?
  intro j;rw[h3];by_cases hj:j<24
  ·rw[jb (by simp[hl,sr];exact hj)];simp
  ·rw[ja (by simp[hl,sr];omega),Array.getElem?_eq_none (by simp[sr];omega),Array.getElem?_eq_none (by simp[hl];omega)]
 rw[h1,e]
@[simp] theorem YC (l : List Nat) : JE (.agg (mF l).toArray) = mF l := rfl
@[simp] theorem WV (l : List UInt8) : JE (.agg (ey l).toArray) = ey l := rfl
theorem VO {l:List Nat}(h:l.length=24):zO (.agg (mF l).toArray):=⟨_,rfl,by rw[mF,jc,h],fun u hu=>by rw[mF,List.mem_map]at hu;obtain⟨n,-,rfl⟩:=hu;rfl⟩
theorem S9 {l:List UInt8}(h:l.length=24):zO (.agg (ey l).toArray):=⟨_,rfl,by rw[ey,jc,h],fun u hu=>by rw[ey,List.mem_map]at hu;obtain⟨n,-,rfl⟩:=hu;rfl⟩
section
variable {w0 w:World} {x:Nat} {f:Fx} {m:RM} {vb vt:Value}
theorem bO.UR (h:bO w0 x f w m vb vt):rowAt w (.pointer (some ⟨x,50,none⟩))=(mF m.held).toArray/\Ac w (.pointer (some ⟨x,50,none⟩)):=
 Ta h.len.l3 fun j hj=>by
  rw[(h.Et hj).1,mF,jJ,jB (by rw[h.len.held];exact hj),jA,jB (by rw[h.len.held];exact hj)];rfl
theorem bO.XQ (h:bO w0 x f w m vb vt):rowAt w (.pointer (some ⟨x,74,none⟩))=(ey m.ba).toArray/\Ac w (.pointer (some ⟨x,74,none⟩)):=
 Ta h.len.l4 fun j hj=>by
  rw[(h.qn hj).1,ey,jJ,jB (by rw[h.len.ba];exact hj),jA,jB (by rw[h.len.ba];exact hj)];rfl
end
end Mac
namespace Mac
open Go Go.RowKit Sq Aux PrjJ PrjK PrjL PrjM Go.Proofs.YtmlgajhhnojdjaaGreatDoor.Own RefRa RefP RefO
attribute [local go_sem ↓] Fs Ji CM Ft CK Fo
section
variable {w0 w w1 w2 w3:World} {x gw cw:Nat} {f:Fx} {m:RM} {p:RP} {ws:List B} {t:Nat} {vb vt:Value}
theorem RM.Ok.dc (h:m.Ok t)(c:UInt8)(i:Nat):∀n,(m.dc c i n).Ok t
 |0=>h
 |n+1=>(RM.Ok.dc h c i n).ba _
set_option maxRecDepth 20000 in
set_option maxHeartbeats 4000000 in
theorem DC (hC:Ctx w0 p f)(h:cd w0 x f w m)(hR:Row w0 ws gw)(hn:ws.length=3)(h1:Wd p (word ws 1))(h2:Wd p (word ws 2))(hw:word ws 0=[109,111,118,101]\/word ws 0=[115,111,109,101])(hO:m.Ok t)(ht:t<=2000000)(mr:sp p (word ws 1)+(p.ak (word ws 2)).2<=24):
  Calls Tryz.prog 154 #[.pointer (some ⟨x,0,none⟩),.slice (some ⟨gw,0,none⟩) ws.length cw] w fun e w'=>e=.returned (.tuple #[])/\cd w0 x f w' (m.owned p ws):=by
 obtain⟨hi,hi2,Wm,hn2⟩:=h2.lt hC.aW;obtain⟨hj,-⟩:=h1.lt hC.aW;have HG:Hid (m.owned p ws=(if word ws 0=qo then{RM.cU ((m.dc (dk (word ws 2)) (sp p (word ws 2)) (p.ak (word ws 2)).2).drop p (word ws 1)) m.held m.ba (sp p (word ws 1)) (sp p (word ws 2)) (p.ak (word ws 2)).2 with ba:=(RM.cU ((m.dc (dk (word ws 2)) (sp p (word ws 2)) (p.ak (word ws 2)).2).drop p (word ws 1)) m.held m.ba (sp p (word ws 1)) (sp p (word ws 2)) (p.ak (word ws 2)).2).ba.set (sp p (word ws 1)) 119}else RM.cU ((m.dc (dk (word ws 2)) (sp p (word ws 2)) (p.ak (word ws 2)).2).drop p (word ws 1)) m.held m.ba (sp p (word ws 1)) (sp p (word ws 2)) (p.ak (word ws 2)).2)):=rfl;have KS:=fun w' (hp:bf w' f.a p)=>kz p f.a (word ws 2) w' hp hC.ok h2.len h2.find
 have KL:=fun w'=>zR (word ws 2) w' h2.len
 rw[M0]at KL;have la:(ws.length:Int)=3:=by omega
 have e1:(p.ak (word ws 2)).1=sp p (word ws 2):=rfl;rw[e1]at KS;obtain⟨vb,vt,hV⟩:=h;obtain⟨c0,c1,c2,c3,c4,c5,c6,c7,c8,c9⟩:=hV.facts;have HP:=hC.prog.below (hV.below ((Below.refl w.heap.size w).drew)).br;have z2:=hR.at hV (j:=2) (by omega);go_enter Tryz.func154,Tryz.ntmps154
 go_upto_region 0 with fail
 go_region_law (go_simp;go_at_call 143;refine(KS _ HP).mono ?_;rintro e w1 ⟨rfl,n1,rfl⟩)
 all_goals
  have lf:bO w0 x f (w.drewN (1+n1)) m vb vt:=hV.below (below_drewN (Below.refl w.heap.size w) _);clear hV c0 c1 c2 c3 c4 c5 c6 c7 c8 c9 HP z2 KS;generalize w.drewN (1+n1)=wq at*;obtain⟨r1,r2⟩:=lf.UR;have hRm:=IS wq 0;have hRw:=VO lf.len.held;obtain⟨s1,s2⟩:=Nf wq 0 (mF m.held) lf.len.l3;go_upto_region 2 with fail
  have eR:=lf.below s2;generalize ((wq.alloc (Obj.cells (mP 0).toArray (Cw 0))).setCells wq.heap.size 0 (mF m.held))=W1 at*;clear r1 r2 hRm hRw;obtain⟨r3,r4⟩:=eR.XQ;have hRm:=IS W1 1;have hRw:=S9 eR.len.ba;obtain⟨s3,s4⟩:=Nf W1 1 (ey m.ba) eR.len.l4;go_upto_region 3 with fail
  have qt:=eR.below s4;have s5:=s4.block wq.heap.size (lt_of_heap s1);rw[s1]at s5;generalize ((W1.alloc (Obj.cells (mP 1).toArray (Cw 1))).setCells W1.heap.size 0 (ey m.ba))=W2 at*;obtain⟨F,hF⟩:∃F:Fx,F={f with kept:=(wq.heap.size,mF m.held,0)::(W1.heap.size,ey m.ba,1)::f.kept}:=⟨_,rfl⟩;have HM:Hid (cd w0 x F W2 (m.dc (dk (word ws 2)) (sp p (word ws 2)) 0)):=by
   subst hF;exact⟨vb,vt,⟨qt.base,qt.aJ,qt.boxes,qt.trace,qt.br,qt.len,fun e he=>by
    simp only[List.mem_cons]at he;rcases he with rfl|rfl|he
    ·exact s5
    ·exact s3
    ·exact qt.loc e he⟩⟩
  have K1:∀wr m',cd w0 x F wr m'->wr.heap[wq.heap.size]?=some (.cells (mF m.held).toArray (Cw 0) (0,0))/\wr.heap[W1.heap.size]?=some (.cells (ey m.ba).toArray (Cw 1) (0,0))/\wq.heap.size≠x/\W1.heap.size≠x:=by
   subst hF;rintro wr m' ⟨vb',vt',hX⟩;exact⟨hX.loc (wq.heap.size,mF m.held,0) (by simp),hX.loc (W1.heap.size,ey m.ba,1) (by simp),hX.apart (e:=(wq.heap.size,mF m.held,0)) (by simp),hX.apart (e:=(W1.heap.size,ey m.ba,1)) (by simp)⟩
  have KE:∀wr m',cd w0 x F wr m'->cd w0 x f wr m':=by
   subst hF;rintro wr m' ⟨vb',vt',hX⟩;exact⟨vb',vt',⟨hX.base,hX.aJ,hX.boxes,hX.trace,hX.br,hX.len,fun e he=>hX.loc e (by simp[he])⟩⟩
  have hCF:Ctx w0 p F:=by subst hF;exact⟨hC.prog,hC.ok,hC.aW⟩
  have V8:=hO.dc (dk (word ws 2)) (sp p (word ws 2));clear s1 s2 s3 s4 s5 r3 r4 hRm hRw lf eR qt hF;generalize wq.heap.size=b1 at*;generalize W1.heap.size=b2 at*;go_wp2_with fail
  clear hC hO;generalize lg:sp p (word ws 2)=i at*;generalize (p.ak (word ws 2)).2=n at*;generalize dk (word ws 2)=c at*;have HHG:Hid (_=_):=HG.out;clear HG e1;have hlh:∀j,j<24->(mF m.held)[j]?=some (.int .i64 ((m.held.getD j 0:Nat):Int)):=fun j hj=>by
   obtain⟨vb',vt',hX⟩:=HM.out;have e:m.held.length=24:=hX.len.held;rw[mF,jJ,jB (by rw[e];exact hj),jA,jB (by rw[e];exact hj)];rfl
  have UY:m.ba.length=24:=by
   obtain⟨vb',vt',hX⟩:=HM.out;exact hX.len.ba
  have hlw:∀j,j<24->(ey m.ba)[j]?=some (.int .u8 ((m.ba.getD j 0).toNat:Nat)):=fun j hj=>by
   rw[ey,jJ,jB (by rw[UY];exact hj),jA,jB (by rw[UY];exact hj)];rfl
  have HLH:Hid (∀j,j<24->(mF m.held)[j]?=some (.int .i64 ((m.held.getD j 0:Nat):Int))):=hlh;have HLW:Hid (∀j,j<24->(ey m.ba)[j]?=some (.int .u8 ((m.ba.getD j 0).toNat:Nat))):=hlw;clear hlh hlw UY;go_loopw [8] (fun v8 wr=>∃(j:Nat),j<=n/\v8=.int .i64 ((i+j:Nat):Int)/\Hid (cd w0 x F wr (m.dc c i j))) (fun v _=>i+n-(intOf v).toNat)
  case atStart=>exact⟨0,jQ _,by simp,HM⟩
  case round=>
   obtain⟨j,hj0,rfl,HJ⟩:=hrel;clear HM;by_cases aL:j<n
   ·obtain⟨vb',vt',hV⟩:=HJ.out;have zm:i+j<24:=by omega
    have i4:((i+j:Nat):Int)<24:=by omega
    have i5:((i+j:Nat):Int)<(i:Int)+n:=by omega
    obtain⟨a1,a2⟩:=hV.qn zm;have y2:=hR.at hV (j:=2) (by omega);have vE:Hid (m.dc c i (j+1)={m.dc c i j with ba:=(m.dc c i j).ba.set (i+j) c}):=rfl;generalize hmj:m.dc c i j=mj at*;generalize hk:i+j=k at*;go_upto_region 5 with fail
    go_region_law (go_simp;go_at_call 140;refine(KL _).mono ?_;rintro e w3 ⟨rfl,rfl⟩)
    all_goals
     have qt:=(hV.below ((Below.refl wr.heap.size wr).drew)).pX zm c;go_wp2_with fail
     refine⟨⟨j+1,by omega,by rw[<-Nat.add_assoc,hk];go_num,?_⟩,by simp[intOf];omega⟩;rw[vE.out];exact⟨_,_,qt⟩
   ·have i5:¬((i+j:Nat):Int)<(i:Int)+n:=by omega
    have ejn:j=n:=by omega
    subst ejn;obtain⟨vb',vt',hV⟩:=HJ.out;have y1:=hR.at hV (j:=1) (by omega);have KD:=fY hCF HJ.out h1 (V8 j) (by omega);go_wp2_with (first
     |(go_at_call 148;refine KD.mono ?_;rintro e w2 ⟨rfl,Ck⟩;have y3:=hR.on Ck (j:=1) (by omega);have KS2:=fc hCF Ck h1)
     |(go_at_call 149;refine KS2.mono ?_;rintro e w3 ⟨rfl,hM3⟩))
    have HM3:Hid (cd w0 x F w3 (RM.cU ((m.dc c i j).drop p (word ws 1)) m.held m.ba (sp p (word ws 1)) i 0)):=hM3;generalize sp p (word ws 1)=jj at*;generalize (m.dc c i j).drop p (word ws 1)=md at*;clear hV y1 y3 Ck hM3 HJ i5 KD KS2;go_loopw [10] (fun v10 wr=>∃(k:Nat),k<=j/\v10=.int .i64 ((k:Nat):Int)/\Hid (cd w0 x F wr (RM.cU md m.held m.ba jj i k))) (fun v _=>j-(intOf v).toNat)
    case atStart=>exact⟨0,jQ _,rfl,HM3⟩
    case round=>
     obtain⟨k,hk0,rfl,HK⟩:=hrel;clear HM3;by_cases aL:k<j
     ·obtain⟨vb',vt',hV⟩:=HK.out;obtain⟨t1,t2,t3,t4⟩:=K1 _ _ HK.out;have t5:=t3.symm;have t6:=t4.symm;have XE:i+k<24:=by omega
      have UW:jj+k<24:=by omega
      have q1:wr.cell? ⟨b1,i+k,none⟩=some (.int .i64 ((m.held.getD (i+k) 0:Nat):Int)):=by rw[cell_of_heap t1,List.getElem?_toArray];exact HLH.out _ XE
      have q2:wr.cell? ⟨b2,i+k,none⟩=some (.int .u8 ((m.ba.getD (i+k) 0).toNat:Nat)):=by rw[cell_of_heap t2,List.getElem?_toArray];exact HLW.out _ XE
      obtain⟨a1,a2⟩:=hV.Et UW;obtain⟨a3,a4⟩:=hV.qn UW;have n1:((i:Int)+k)=((i+k:Nat):Int):=by omega
      have n2:((jj:Int)+k)=((jj+k:Nat):Int):=by omega
      have n3:((i+k:Nat):Int)<24:=by omega
      have n4:((jj+k:Nat):Int)<24:=by omega
      have n5:((k:Nat):Int)<(j:Int):=by omega
      have n6:IntKind.i64.wrap ((i:Int)+k)=((i+k:Nat):Int):=by rw[IntKind.wrap_i64];omega
      have n7:IntKind.i64.wrap ((jj:Int)+k)=((jj+k:Nat):Int):=by rw[IntKind.wrap_i64];omega
      have vE:Hid (RM.cU md m.held m.ba jj i (k+1)={RM.cU md m.held m.ba jj i k with held:=(RM.cU md m.held m.ba jj i k).held.set (jj+k) (m.held.getD (i+k) 0),ba:=(RM.cU md m.held m.ba jj i k).ba.set (jj+k) (m.ba.getD (i+k) 0)}):=rfl;generalize hmj:RM.cU md m.held m.ba jj i k=mj at*;generalize m.held.getD (i+k) 0=hv at*;generalize m.ba.getD (i+k) 0=hw' at*;have N9:=(hV.below ((Below.refl wr.heap.size wr).drew)).zZ UW hv;have Xk:=((N9.below ((Below.refl _ _).drew)).pX UW hw');generalize i+k=ik at*;generalize jj+k=jk at*;have n8:IntKind.i64.wrap (ik:Int)=ik:=by rw[IntKind.wrap_i64];omega
      have n9:IntKind.i64.wrap (jk:Int)=jk:=by rw[IntKind.wrap_i64];omega
      go_upto_region 12 with fail
      go_region_law (fail)
      all_goals go_upto_region 13 with fail
      all_goals go_region_law (fail)
      all_goals
       go_wp2_with fail
       refine⟨⟨k+1,by omega,by go_num,?_⟩,by simp[intOf];omega⟩;rw[vE.out];exact⟨_,_,Xk⟩
     ·have n5:¬((k:Nat):Int)<(j:Int):=by omega
      have ekj:k=j:=by omega
      subst ekj;obtain⟨vb',vt',hV⟩:=HK.out;have y0:=hR.at hV (j:=0) (by omega);obtain⟨a3,a4⟩:=hV.qn (j:=jj) (by omega);have n8:((jj:Nat):Int)<24:=by omega
      generalize RM.cU md m.held m.ba jj i k=mj at*;rcases hw with hw|hw
      ·rw[hw]at y0;go_wp2_with fail
       go_end0
       refine⟨rfl,?_⟩;rw[HHG.out,ja (show¬word ws 0=qo by rw[hw];decide)];exact KE _ _ ⟨_,_,hV⟩
      ·rw[hw]at y0;have hV6:=hV.pX (j:=jj) (by omega) 119;go_wp2_with fail
       go_end0
       refine⟨rfl,?_⟩;rw[HHG.out,jb (show word ws 0=qo from hw)];exact KE _ _ ⟨_,_,hV6⟩
end
end Mac
namespace Mac
open Go Go.RowKit Sq Aux PrjJ PrjK PrjL PrjM Go.Proofs.YtmlgajhhnojdjaaGreatDoor.Own RefRa RefP RefC
structure Bw (p:RP)(l:B):Prop where
 len:l.length<=maxLen
 num:∃n:Nat,number l=some (n:Int)/\n<p.blocks.length
section
variable {w0 w w1 w2 w3:World} {x gw cw:Nat} {f:Fx} {m:RM} {p:RP} {ws:List B} {t:Nat} {vb vt:Value} {l:B}
theorem ki (hC:Ctx w0 p f)(h:cd w0 x f w m)(hl:Bw p l):Calls Tryz.prog 89 #[.pointer (some ⟨f.a,0,none⟩),.string (bs l)] w fun e w'=>e=.returned (.int .i64 ((eX p l:Nat):Int))/\cd w0 x f w' m:=by
 obtain⟨vb,vt,hV⟩:=h;obtain⟨n,h1,h2⟩:=hl.num;refine(CV p f.a l n w (hC.prog.below hV.br) hC.ok hl.len h1 h2).mono ?_;rintro e w' ⟨rfl,k,rfl⟩;refine⟨?_,vb,vt,hV.below (below_drewN (Below.refl _ _) _)⟩;unfold eX kX;rw[h1];rfl
set_option maxRecDepth 20000 in
set_option maxHeartbeats 2000000 in
theorem O6 (hC:Ctx w0 p f)(h:cd w0 x f w m)(hR:Row w0 ws gw)(hn:ws.length=2)(h1:Bw p (word ws 1))(hw:word ws 0=[103,111,116,111]):
  Calls Tryz.prog 93 #[.pointer (some ⟨x,0,none⟩),.slice (some ⟨gw,0,none⟩) ws.length cw] w fun e w'=>e=.returned (.int .i64 ((eX p (m.next p ws).2:Nat):Int))/\cd w0 x f w' (m.next p ws).1:=by
 have HG:Hid (m.next p ws=(m,word ws 1)):=by unfold Hid RM.next;simp[hw]
 rw[HG.out];have la:(ws.length:Int)=2:=by omega
 have y0:=hR.on h (j:=0) (by omega);rw[hw]at y0;have y1:=hR.on h (j:=1) (by omega);obtain⟨vb,vt,hV⟩:=h;obtain⟨c0,c1,c2,c3,c4,c5,c6,c7,c8,c9⟩:=hV.facts;have KB:=ki hC ⟨_,_,hV.below ((Below.refl w.heap.size w).drew)⟩ h1;go_enter Tryz.func93,Tryz.ntmps93
 go_upto_region 3 with fail
 go_region_law (go_simp;go_at_call 89;refine KB.mono ?_;rintro e w9 ⟨rfl,xN⟩)
 all_goals go_wp2_with fail
 all_goals go_ret
 all_goals exact⟨rfl,xN⟩
set_option maxRecDepth 20000 in
set_option maxHeartbeats 2000000 in
theorem SB (hC:Ctx w0 p f)(h:cd w0 x f w m)(hR:Row w0 ws gw)(hn:ws.length=4)(h1:Wd p (word ws 1))(hb:Bw p (word ws 3))(hw:word ws 0=[105,102])(hz:m.int (sp p (word ws 1))=0):
  Calls Tryz.prog 93 #[.pointer (some ⟨x,0,none⟩),.slice (some ⟨gw,0,none⟩) ws.length cw] w fun e w'=>e=.returned (.int .i64 ((eX p (m.next p ws).2:Nat):Int))/\cd w0 x f w' (m.next p ws).1:=by
 have HG:Hid (m.next p ws=(m.bE (sp p (word ws 1)),word ws 3)):=by unfold Hid RM.next;simp[hw,hz]
 rw[HG.out];have la:(ws.length:Int)=4:=by omega
 have y0:=hR.on h (j:=0) (by omega);rw[hw]at y0;have y1:=hR.on h (j:=1) (by omega);have KI:=cN hC h h1;go_enter Tryz.func93,Tryz.ntmps93
 go_wp2_with (go_at_call 147;refine KI.mono ?_;rintro e w1 ⟨rfl,vb,vt,hV⟩;obtain⟨c0,c1,c2,c3,c4,c5,c6,c7,c8,c9⟩:=hV.facts;have y2:=hR.at hV (j:=3) (by omega);have KB:=ki hC ⟨_,_,hV.below ((Below.refl w1.heap.size w1).drew)⟩ hb)
 go_upto_region 18 with fail
 go_region_law (go_simp;go_at_call 89;refine KB.mono ?_;rintro e w9 ⟨rfl,xN⟩)
 all_goals go_wp2_with fail
 all_goals go_ret
 all_goals exact⟨rfl,xN⟩
set_option maxRecDepth 20000 in
set_option maxHeartbeats 2000000 in
theorem SC (hC:Ctx w0 p f)(h:cd w0 x f w m)(hR:Row w0 ws gw)(hn:ws.length=4)(h1:Wd p (word ws 1))(hb:Bw p (word ws 2))(hw:word ws 0=[105,102])(hz:¬m.int (sp p (word ws 1))=0):
  Calls Tryz.prog 93 #[.pointer (some ⟨x,0,none⟩),.slice (some ⟨gw,0,none⟩) ws.length cw] w fun e w'=>e=.returned (.int .i64 ((eX p (m.next p ws).2:Nat):Int))/\cd w0 x f w' (m.next p ws).1:=by
 have HG:Hid (m.next p ws=(m.bE (sp p (word ws 1)),word ws 2)):=by unfold Hid RM.next;simp[hw,hz]
 rw[HG.out];have la:(ws.length:Int)=4:=by omega
 have y0:=hR.on h (j:=0) (by omega);rw[hw]at y0;have y1:=hR.on h (j:=1) (by omega);have KI:=cN hC h h1;go_enter Tryz.func93,Tryz.ntmps93
 go_wp2_with (go_at_call 147;refine KI.mono ?_;rintro e w1 ⟨rfl,vb,vt,hV⟩;obtain⟨c0,c1,c2,c3,c4,c5,c6,c7,c8,c9⟩:=hV.facts;have y2:=hR.at hV (j:=2) (by omega);have KB:=ki hC ⟨_,_,hV.below ((Below.refl w1.heap.size w1).drew)⟩ hb)
 go_upto_region 7 with fail
 go_region_law (go_simp;go_at_call 89;refine KB.mono ?_;rintro e w9 ⟨rfl,xN⟩)
 all_goals go_wp2_with fail
 all_goals go_ret
 all_goals exact⟨rfl,xN⟩
set_option maxRecDepth 20000 in
set_option maxHeartbeats 2000000 in
theorem Ip (hC:Ctx w0 p f)(h:cd w0 x f w m)(hR:Row w0 ws gw)(hn:ws.length=4)(h1:Wd p (word ws 1))(hb:Bw p (word ws 3))(hw:word ws 0=[109,97,116,99,104])(hz:m.ba.getD (sp p (word ws 1)) 0=0):
  Calls Tryz.prog 93 #[.pointer (some ⟨x,0,none⟩),.slice (some ⟨gw,0,none⟩) ws.length cw] w fun e w'=>e=.returned (.int .i64 ((eX p (m.next p ws).2:Nat):Int))/\cd w0 x f w' (m.next p ws).1:=by
 have HG:Hid (m.next p ws=({m with out:=5},word ws 3)):=by unfold Hid RM.next;simp only;rw[hw,ja (by decide),ja (by decide),jb (show([109,97,116,99,104]:B)=bT from rfl),jb hz,ja (by rw[hz];decide)]
 rw[HG.out];have la:(ws.length:Int)=4:=by omega
 have y0:=hR.on h (j:=0) (by omega);rw[hw]at y0;have y1:=hR.on h (j:=1) (by omega);have KS:=fc hC (h.below ((Below.refl w.heap.size w).drew)) h1;obtain⟨hi,-⟩:=h1.lt hC.aW;have i1:((sp p (word ws 1):Nat):Int)<24:=by omega
 go_enter Tryz.func93,Tryz.ntmps93
 go_upto_region 9 with fail
 go_region_law (go_simp;go_at_call 149;refine KS.mono ?_;rintro e w1 ⟨rfl,vb,vt,hV⟩;obtain⟨c0,c1,c2,c3,c4,c5,c6,c7,c8,c9⟩:=hV.facts;obtain⟨f1,f2,f3,f4,f5,f6⟩:=hV.eB;obtain⟨a1,a2⟩:=hV.qn hi;rw[hz]at a1;have Xk:bO w0 x f (w1.setCell ⟨x,154,none⟩ (.int .i64 5)) {m with out:=5} vb vt:=hV.tG 5;have y2:=hR.at Xk (j:=3) (by omega);have KB:=ki hC ⟨_,_,Xk.below ((Below.refl _ _).drew)⟩ hb)
 all_goals go_upto_region 18 with fail
 all_goals go_region_law (go_simp;go_at_call 89;refine KB.mono ?_;rintro e w9 ⟨rfl,xN⟩)
 all_goals go_wp2_with fail
 all_goals go_ret
 all_goals exact⟨rfl,xN⟩
set_option maxRecDepth 20000 in
set_option maxHeartbeats 2000000 in
theorem Iq (hC:Ctx w0 p f)(h:cd w0 x f w m)(hR:Row w0 ws gw)(hn:ws.length=4)(h1:Wd p (word ws 1))(hb:Bw p (word ws 2))(hw:word ws 0=[109,97,116,99,104])(hz:m.ba.getD (sp p (word ws 1)) 0=110):
  Calls Tryz.prog 93 #[.pointer (some ⟨x,0,none⟩),.slice (some ⟨gw,0,none⟩) ws.length cw] w fun e w'=>e=.returned (.int .i64 ((eX p (m.next p ws).2:Nat):Int))/\cd w0 x f w' (m.next p ws).1:=by
 have HG:Hid (m.next p ws=(m,word ws 2)):=by unfold Hid RM.next;simp only;rw[hw,ja (by decide),ja (by decide),jb (show([109,97,116,99,104]:B)=bT from rfl),ja (by rw[hz];decide),jb hz]
 rw[HG.out];have la:(ws.length:Int)=4:=by omega
 have y0:=hR.on h (j:=0) (by omega);rw[hw]at y0;have y1:=hR.on h (j:=1) (by omega);have KS:=fc hC (h.below ((Below.refl w.heap.size w).drew)) h1;obtain⟨hi,-⟩:=h1.lt hC.aW;have i1:((sp p (word ws 1):Nat):Int)<24:=by omega
 go_enter Tryz.func93,Tryz.ntmps93
 go_upto_region 9 with fail
 go_region_law (go_simp;go_at_call 149;refine KS.mono ?_;rintro e w1 ⟨rfl,vb,vt,hV⟩;obtain⟨c0,c1,c2,c3,c4,c5,c6,c7,c8,c9⟩:=hV.facts;obtain⟨f1,f2,f3,f4,f5,f6⟩:=hV.eB;obtain⟨a1,a2⟩:=hV.qn hi;rw[hz]at a1;have y2:=hR.at hV (j:=2) (by omega);have KB:=ki hC ⟨_,_,hV.below ((Below.refl _ _).drew)⟩ hb)
 all_goals go_upto_region 13 with fail
 all_goals go_region_law (go_simp;go_at_call 89;refine KB.mono ?_;rintro e w9 ⟨rfl,xN⟩)
 all_goals go_wp2_with fail
 all_goals go_ret
 all_goals exact⟨rfl,xN⟩
set_option maxRecDepth 20000 in
set_option maxHeartbeats 2000000 in
theorem Ir (hC:Ctx w0 p f)(h:cd w0 x f w m)(hR:Row w0 ws gw)(hn:ws.length=4)(h1:Wd p (word ws 1))(hb:Bw p (word ws 3))(hw:word ws 0=[109,97,116,99,104])(hz:¬m.ba.getD (sp p (word ws 1)) 0=0)(xX:¬m.ba.getD (sp p (word ws 1)) 0=110):
  Calls Tryz.prog 93 #[.pointer (some ⟨x,0,none⟩),.slice (some ⟨gw,0,none⟩) ws.length cw] w fun e w'=>e=.returned (.int .i64 ((eX p (m.next p ws).2:Nat):Int))/\cd w0 x f w' (m.next p ws).1:=by
 have HG:Hid (m.next p ws=(m,word ws 3)):=by unfold Hid RM.next;simp only;rw[hw,ja (by decide),ja (by decide),jb (show([109,97,116,99,104]:B)=bT from rfl),ja hz,ja xX]
 rw[HG.out];have la:(ws.length:Int)=4:=by omega
 have y0:=hR.on h (j:=0) (by omega);rw[hw]at y0;have y1:=hR.on h (j:=1) (by omega);have KS:=fc hC (h.below ((Below.refl w.heap.size w).drew)) h1;obtain⟨hi,-⟩:=h1.lt hC.aW;have hq1:¬((m.ba.getD (sp p (word ws 1)) 0).toNat:Int)=0:=fun e=>hz (UInt8.toNat_inj.1 (by rw[show(0:UInt8).toNat=0 from rfl];omega))
 have XU:¬((m.ba.getD (sp p (word ws 1)) 0).toNat:Int)=110:=fun e=>xX (UInt8.toNat_inj.1 (by rw[show(110:UInt8).toNat=110 from rfl];omega))
 have i1:((sp p (word ws 1):Nat):Int)<24:=by omega
 go_enter Tryz.func93,Tryz.ntmps93
 go_upto_region 9 with fail
 go_region_law (go_simp;go_at_call 149;refine KS.mono ?_;rintro e w1 ⟨rfl,vb,vt,hV⟩;obtain⟨c0,c1,c2,c3,c4,c5,c6,c7,c8,c9⟩:=hV.facts;obtain⟨f1,f2,f3,f4,f5,f6⟩:=hV.eB;obtain⟨a1,a2⟩:=hV.qn hi;generalize m.ba.getD (sp p (word ws 1)) 0=hc at a1 hq1 XU;have y2:=hR.at hV (j:=3) (by omega);have KB:=ki hC ⟨_,_,hV.below ((Below.refl _ _).drew)⟩ hb)
 all_goals go_upto_region 18 with fail
 all_goals go_region_law (go_simp;go_at_call 89;refine KB.mono ?_;rintro e w9 ⟨rfl,xN⟩)
 all_goals go_wp2_with fail
 all_goals go_ret
 all_goals exact⟨rfl,xN⟩
end
end Mac
namespace Mac
open Go Go.RowKit Sq Aux PrjJ PrjK PrjL PrjM Go.Proofs.YtmlgajhhnojdjaaGreatDoor.Own RefRa RefP RefC
section
variable {w0 w w1 w2 w3:World} {x gw cw:Nat} {f:Fx} {m:RM} {p:RP} {ws:List B} {t:Nat} {vb vt:Value} {al:List Int}
set_option maxRecDepth 20000 in
set_option maxHeartbeats 2000000 in
theorem QN (hC:Ctx w0 p f)(h:cd w0 x f w m)(hR:Row w0 ws gw)(hn:ws.length=3)(hw:word ws 0=[115,101,116])(h1:Wd p (word ws 1))(h2:(word ws 2).length<=maxLen):
  Calls Tryz.prog 94 #[.pointer (some ⟨x,0,none⟩),.slice (some ⟨gw,0,none⟩) ws.length cw] w fun e w'=>e=.returned (.tuple #[])/\cd w0 x f w' (m.aS f p al ws):=by
 have HG:Hid (m.aS f p al ws=m.be (sp p (word ws 1)) (kX (word ws 2))):=by unfold Hid RM.aS;simp only[hw];rfl
 have la:(ws.length:Int)=3:=by omega
 have y0:=hR.on h (j:=0) (by omega);rw[hw]at y0;have y1:=hR.on h (j:=1) (by omega);have y2:=hR.on h (j:=2) (by omega);have KN:=ej (bs (word ws 2)) w (by rw[dR];exact h2);rw[aE]at KN;have KB:=qE hC h h1 (kX (word ws 2));go_enter Tryz.func94,Tryz.ntmps94
 go_wp2_with (first
  |(go_at_call 112;refine KN.mono ?_;rintro e w1 ⟨rfl,rfl⟩)
  |(go_at_call 150;refine KB.mono ?_;rintro e w2 ⟨rfl,hM⟩))
 go_end0
 exact⟨rfl,by rw[HG.out];exact hM⟩
end
end Mac
namespace Mac
open Go Go.RowKit Sq Aux PrjJ PrjK PrjL PrjM Go.Proofs.YtmlgajhhnojdjaaGreatDoor.Own RefRa RefP RefC
section
variable {w0 w w1 w2 w3:World} {x gw cw:Nat} {f:Fx} {m:RM} {p:RP} {ws:List B} {t:Nat} {vb vt:Value} {al:List Int}
set_option maxRecDepth 20000 in
set_option maxHeartbeats 2000000 in
theorem QG (hC:Ctx w0 p f)(h:cd w0 x f w m)(hR:Row w0 ws gw)(hn:ws.length=4)(hw:word ws 0=[97,100,100])(h1:Wd p (word ws 1))(h2:Wd p (word ws 2))(h3:Wd p (word ws 3)):
  Calls Tryz.prog 94 #[.pointer (some ⟨x,0,none⟩),.slice (some ⟨gw,0,none⟩) ws.length cw] w fun e w'=>e=.returned (.tuple #[])/\cd w0 x f w' (m.aS f p al ws):=by
 have HG:Hid (m.aS f p al ws=m.arith p ws):=by unfold Hid RM.aS;simp only[hw];rfl
 have la:(ws.length:Int)=4:=by omega
 have y0:=hR.on h (j:=0) (by omega);rw[hw]at y0;have KA:=rR (cw:=cw) hC h hR hn h1 h2 h3 (by rw[hw];decide);rw[hn]at KA;go_enter Tryz.func94,Tryz.ntmps94
 go_wp2_with (go_at_call 151;refine KA.mono ?_;rintro e w2 ⟨rfl,hM⟩)
 go_end0
 exact⟨rfl,by rw[HG.out];exact hM⟩
end
end Mac
namespace Mac
open Go Go.RowKit Sq Aux PrjJ PrjK PrjL PrjM Go.Proofs.YtmlgajhhnojdjaaGreatDoor.Own RefRa RefP RefC
section
variable {w0 w w1 w2 w3:World} {x gw cw:Nat} {f:Fx} {m:RM} {p:RP} {ws:List B} {t:Nat} {vb vt:Value} {al:List Int}
set_option maxRecDepth 20000 in
set_option maxHeartbeats 2000000 in
theorem QO (hC:Ctx w0 p f)(h:cd w0 x f w m)(hR:Row w0 ws gw)(hn:ws.length=4)(hw:word ws 0=[115,117,98])(h1:Wd p (word ws 1))(h2:Wd p (word ws 2))(h3:Wd p (word ws 3)):
  Calls Tryz.prog 94 #[.pointer (some ⟨x,0,none⟩),.slice (some ⟨gw,0,none⟩) ws.length cw] w fun e w'=>e=.returned (.tuple #[])/\cd w0 x f w' (m.aS f p al ws):=by
 have HG:Hid (m.aS f p al ws=m.arith p ws):=by unfold Hid RM.aS;simp only[hw];rfl
 have la:(ws.length:Int)=4:=by omega
 have y0:=hR.on h (j:=0) (by omega);rw[hw]at y0;have KA:=rR (cw:=cw) hC h hR hn h1 h2 h3 (by rw[hw];decide);rw[hn]at KA;go_enter Tryz.func94,Tryz.ntmps94
 go_wp2_with (go_at_call 151;refine KA.mono ?_;rintro e w2 ⟨rfl,hM⟩)
 go_end0
 exact⟨rfl,by rw[HG.out];exact hM⟩
end
end Mac
namespace Mac
open Go Go.RowKit Sq Aux PrjJ PrjK PrjL PrjM Go.Proofs.YtmlgajhhnojdjaaGreatDoor.Own RefRa RefP RefC
section
variable {w0 w w1 w2 w3:World} {x gw cw:Nat} {f:Fx} {m:RM} {p:RP} {ws:List B} {t:Nat} {vb vt:Value} {al:List Int}
set_option maxRecDepth 20000 in
set_option maxHeartbeats 2000000 in
theorem QJ (hC:Ctx w0 p f)(h:cd w0 x f w m)(hR:Row w0 ws gw)(hn:ws.length=4)(hw:word ws 0=[109,117,108])(h1:Wd p (word ws 1))(h2:Wd p (word ws 2))(h3:Wd p (word ws 3)):
  Calls Tryz.prog 94 #[.pointer (some ⟨x,0,none⟩),.slice (some ⟨gw,0,none⟩) ws.length cw] w fun e w'=>e=.returned (.tuple #[])/\cd w0 x f w' (m.aS f p al ws):=by
 have HG:Hid (m.aS f p al ws=m.arith p ws):=by unfold Hid RM.aS;simp only[hw];rfl
 have la:(ws.length:Int)=4:=by omega
 have y0:=hR.on h (j:=0) (by omega);rw[hw]at y0;have KA:=rR (cw:=cw) hC h hR hn h1 h2 h3 (by rw[hw];decide);rw[hn]at KA;go_enter Tryz.func94,Tryz.ntmps94
 go_wp2_with (go_at_call 151;refine KA.mono ?_;rintro e w2 ⟨rfl,hM⟩)
 go_end0
 exact⟨rfl,by rw[HG.out];exact hM⟩
end
end Mac
namespace Mac
open Go Go.RowKit Sq Aux PrjJ PrjK PrjL PrjM Go.Proofs.YtmlgajhhnojdjaaGreatDoor.Own RefRa RefP RefC
section
variable {w0 w w1 w2 w3:World} {x gw cw:Nat} {f:Fx} {m:RM} {p:RP} {ws:List B} {t:Nat} {vb vt:Value} {al:List Int}
set_option maxRecDepth 20000 in
set_option maxHeartbeats 2000000 in
theorem QH (hC:Ctx w0 p f)(h:cd w0 x f w m)(hR:Row w0 ws gw)(hn:ws.length=4)(hw:word ws 0=[100,105,118])(h1:Wd p (word ws 1))(h2:Wd p (word ws 2))(h3:Wd p (word ws 3)):
  Calls Tryz.prog 94 #[.pointer (some ⟨x,0,none⟩),.slice (some ⟨gw,0,none⟩) ws.length cw] w fun e w'=>e=.returned (.tuple #[])/\cd w0 x f w' (m.aS f p al ws):=by
 have HG:Hid (m.aS f p al ws=m.arith p ws):=by unfold Hid RM.aS;simp only[hw];rfl
 have la:(ws.length:Int)=4:=by omega
 have y0:=hR.on h (j:=0) (by omega);rw[hw]at y0;have KA:=rR (cw:=cw) hC h hR hn h1 h2 h3 (by rw[hw];decide);rw[hn]at KA;go_enter Tryz.func94,Tryz.ntmps94
 go_wp2_with (go_at_call 151;refine KA.mono ?_;rintro e w2 ⟨rfl,hM⟩)
 go_end0
 exact⟨rfl,by rw[HG.out];exact hM⟩
end
end Mac
namespace Mac
open Go Go.RowKit Sq Aux PrjJ PrjK PrjL PrjM Go.Proofs.YtmlgajhhnojdjaaGreatDoor.Own RefRa RefP RefC
section
variable {w0 w w1 w2 w3:World} {x gw cw:Nat} {f:Fx} {m:RM} {p:RP} {ws:List B} {t:Nat} {vb vt:Value} {al:List Int}
set_option maxRecDepth 20000 in
set_option maxHeartbeats 2000000 in
theorem QL (hC:Ctx w0 p f)(h:cd w0 x f w m)(hR:Row w0 ws gw)(hn:ws.length=2)(hw:word ws 0=[111,117,116])(h1:Wd p (word ws 1))(h0:m.out=0)(hh:m.has.getD (sp p (word ws 1)) false=true)(hO:m.Ok t)(ht:t<=2000000):
  Calls Tryz.prog 94 #[.pointer (some ⟨x,0,none⟩),.slice (some ⟨gw,0,none⟩) ws.length cw] w fun e w'=>e=.returned (.tuple #[])/\cd w0 x f w' (m.aS f p al ws):=by
 have HG:Hid (m.aS f p al ws=m.tell p ws):=by unfold Hid RM.aS;simp only[hw];rfl
 have la:(ws.length:Int)=2:=by omega
 have y0:=hR.on h (j:=0) (by omega);rw[hw]at y0;have HX:Hid (m.tell p ws=m.note 111 (m.int (sp p (word ws 1)))):=by unfold Hid RM.tell;simp only;rw[gZ hh,jb h0]
 have y1:=hR.on h (j:=1) (by omega);have KI:=cN hC h h1;rw[gZ hh]at KI;have htr:=hO.trace;have hi64:aO (m.int (sp p (word ws 1))):=hO.ints _;go_enter Tryz.func94,Tryz.ntmps94
 go_wp2_with (first
  |(go_at_call 147;refine KI.mono ?_;rintro e w1 ⟨rfl,vb1,vt1,lf⟩;obtain⟨c0,c1,c2,c3,c4,c5,c6,c7,c8,c9⟩:=lf.facts;obtain⟨f1,f2,f3,f4,f5,f6⟩:=lf.eB;rw[h0]at c8;have KN:Calls Tryz.prog 152 #[.pointer (some ⟨x,0,none⟩),.string ⟨#[111]⟩,.int .i64 (m.int (sp p (word ws 1)))] _ _:=gd ⟨_,_,lf⟩ 111 (m.int (sp p (word ws 1))) hi64 (by omega))
  |(go_at_call 152;refine KN.mono ?_;rintro e w2 ⟨rfl,hM⟩))
 go_end0
 exact⟨rfl,by rw[HG.out,HX.out];exact hM⟩
end
end Mac
namespace Mac
open Go Go.RowKit Sq Aux PrjJ PrjK PrjL PrjM Go.Proofs.YtmlgajhhnojdjaaGreatDoor.Own RefRa RefP RefC
section
variable {w0 w w1 w2 w3:World} {x gw cw:Nat} {f:Fx} {m:RM} {p:RP} {ws:List B} {t:Nat} {vb vt:Value} {al:List Int}
set_option maxRecDepth 20000 in
set_option maxHeartbeats 2000000 in
theorem NS (hC:Ctx w0 p f)(h:cd w0 x f w m)(hR:Row w0 ws gw)(hn:ws.length=2)(hw:word ws 0=[111,117,116])(h1:Wd p (word ws 1))(hh:¬m.has.getD (sp p (word ws 1)) false=true):
  Calls Tryz.prog 94 #[.pointer (some ⟨x,0,none⟩),.slice (some ⟨gw,0,none⟩) ws.length cw] w fun e w'=>e=.returned (.tuple #[])/\cd w0 x f w' (m.aS f p al ws):=by
 have HG:Hid (m.aS f p al ws=m.tell p ws):=by unfold Hid RM.aS;simp only[hw];rfl
 have la:(ws.length:Int)=2:=by omega
 have y0:=hR.on h (j:=0) (by omega);rw[hw]at y0;have HX:Hid (m.tell p ws={m with out:=5}):=by unfold Hid RM.tell;simp only;rw[kQ hh,ja (by simp)]
 have y1:=hR.on h (j:=1) (by omega);have KI:=cN hC h h1;rw[kQ hh]at KI;go_enter Tryz.func94,Tryz.ntmps94
 go_wp2_with (go_at_call 147;refine KI.mono ?_;rintro e w1 ⟨rfl,vb1,vt1,lf⟩;obtain⟨c0,c1,c2,c3,c4,c5,c6,c7,c8,c9⟩:=lf.facts;obtain⟨f1,f2,f3,f4,f5,f6⟩:=lf.eB)
 go_end0
 exact⟨rfl,by rw[HG.out,HX.out];exact⟨_,_,lf⟩⟩
end
end Mac
namespace Mac
open Go Go.RowKit Sq Aux PrjJ PrjK PrjL PrjM Go.Proofs.YtmlgajhhnojdjaaGreatDoor.Own RefRa RefP RefC
section
variable {w0 w w1 w2 w3:World} {x gw cw:Nat} {f:Fx} {m:RM} {p:RP} {ws:List B} {t:Nat} {vb vt:Value} {al:List Int}
set_option maxRecDepth 20000 in
set_option maxHeartbeats 2000000 in
theorem QK (hC:Ctx w0 p f)(h:cd w0 x f w m)(hR:Row w0 ws gw)(hn:ws.length=3)(hw:word ws 0=[110,101,119])(h1:Wd p (word ws 1))(h2:Wd p (word ws 2))(h0:m.out=0)(hO:m.Ok t)(ht:t<=2000000):
  Calls Tryz.prog 94 #[.pointer (some ⟨x,0,none⟩),.slice (some ⟨gw,0,none⟩) ws.length cw] w fun e w'=>e=.returned (.tuple #[])/\cd w0 x f w' (m.aS f p al ws):=by
 have HG:Hid (m.aS f p al ws=m.new f p ws):=by unfold Hid RM.aS;simp only[hw];rfl
 have la:(ws.length:Int)=3:=by omega
 have y0:=hR.on h (j:=0) (by omega);rw[hw]at y0;have KA:=Vp (cw:=cw) hC h hR hn h1 h2 h0 hw hO ht;rw[hn]at KA;go_enter Tryz.func94,Tryz.ntmps94
 go_wp2_with (go_at_call 153;refine KA.mono ?_;rintro e w2 ⟨rfl,hM⟩)
 go_end0
 exact⟨rfl,by rw[HG.out];exact hM⟩
end
end Mac
end Go.Proofs.YtmlgajhhnojdjaaGreatDoor

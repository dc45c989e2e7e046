import Derived.Test.YtmlgajhhnojdjaaGreatDoorRBO
namespace Go.Proofs.YtmlgajhhnojdjaaGreatDoor
namespace RunB
open Go Go.RowKit Sq Aux Go.Proofs.YtmlgajhhnojdjaaGreatDoor.Own RunA RefM PrjG PrjJ PrjK PrjM PrjS PrjW FlwA FlwP FlwQ FlwV FlwY FlwZ FlwZa
def FJ (text:B)(al:List Int)(fuel room:Int)(v:Value)(c k:Int):Prop:=
 (mg text c k/\c≠0/\v=z7)\/(mg text 0 0/\¬ll al fuel room/\v=z7/\c=6/\k=0)\/
  (ll al fuel room/\c=0/\k=0/\∃q ans,Good text q/\ea q room fuel.toNat (q.blocks.getD 0 []) (Own.start al)=some ans/\v=PE ans)
set_option maxRecDepth 20000 in
theorem Ls (ad:Option Addr)(n c:Nat)(f m r:Int)(w:World):Calls Tryz.prog 43 #[.slice ad n c,.int .i64 f,.int .i64 m,.int .i64 r] w fun e w'=>e=.returned (.bool (decide (n<=100/\0<=f/\f<=m/\0<=r/\r<=50)))/\w'=w:=by
 go_enter Tryz.func43,Tryz.ntmps43
 by_cases h1:n<=100<;>by_cases h2:0<=f<;>by_cases h3:f<=m<;>by_cases h4:0<=r<;>by_cases h5:r<=50
 all_goals
  go_wp2<;>(go_ret;simp[h1,h2,h3,h4,h5])
theorem Yq {q:QP}{l:ab}(hl:kI q l):ROk q l:=⟨rm hl,fun h=>by
 rcases h with e|e
 ·exact rq hl e
 ·obtain⟨e0,e1,-⟩:=rv hl e;rw[e0,e1];rfl⟩
theorem Ss {text:B}{q:QP}(hg:Good text q){z a:Nat}{w:World}(hG:Fz z a w q)(vi:Value)(al:List Int)(hf:bY w vi al)(pH:∀n∈al,aO n)(fuel room:Int)(hm:ll al fuel room)(qw:Pow w)(oM:11<=w.heap.size):
  Calls Tryz.prog 44 #[.pointer (some ⟨a,0,none⟩),vi,.int .i64 fuel,.int .i64 room] w fun e w'=>(∃ans,e=.returned (PE ans)/\Hid (ea q room fuel.toNat (q.blocks.getD 0 []) (Own.start al)=some ans))/\Below w.heap.size w w':=by
 obtain⟨-,h0,h1,h2,h3⟩:=hm;obtain⟨f,rfl⟩:∃f:Nat,fuel=f:=⟨fuel.toNat,by omega⟩;obtain⟨r,rfl⟩:∃r:Nat,room=r:=⟨room.toNat,by omega⟩;obtain⟨p,E,hp,hD,hn⟩:=hg.done;have ie:=hD.both.aW;obtain⟨ans,ha,-⟩:=hg.run (lZ ie) (DM q al) (r:Nat) f;obtain⟨vl,vb,us,vss,hP⟩:=hG.at_;have hS:=tC hg.read;have hq:=hD.both.Yo;refine(Uh hP vi al hf pH f r (by omega) (by omega) hD.pos hG.blocks ie hq hG.lines (fun j l hl=>Yq ⟨hq.lines _ (l6 hl) l hl,hS.has _ l hl,hS.fits _ l hl⟩) qw oM ha).mono ?_;rintro e w' ⟨rfl,hb⟩;exact⟨⟨ans,rfl,ha⟩,hb⟩
theorem o8 {w1:World}{R:Nat}{u0 u1 u2 u3:Value}(hR:w1.heap[R]?=some (.cells #[u0,u1,u2,u3] 47 (0,0))):w1.cell? ⟨R,0,none⟩=some u0/\w1.cell? ⟨R,1,none⟩=some u1/\w1.cell? ⟨R,2,none⟩=some u2/\w1.cell? ⟨R,3,none⟩=some u3/\
  w1.frozen? ⟨R,0,none⟩=false/\w1.frozen? ⟨R,1,none⟩=false/\w1.frozen? ⟨R,2,none⟩=false/\w1.frozen? ⟨R,3,none⟩=false:=
 ⟨by rw[cell_of_heap hR];rfl,by rw[cell_of_heap hR];rfl,by rw[cell_of_heap hR];rfl,by rw[cell_of_heap hR];rfl,frozen_of_heap hR 0,frozen_of_heap hR 1,frozen_of_heap hR 2,frozen_of_heap hR 3⟩
theorem eK {w w1:World}{v:Value}{l:List Int}(h:bY w v l){b:Nat}(hb:Below b w w1)(hs:w.heap.size<=b):bY w1 v l:=by
 obtain⟨ad,c,rfl,h1,h2,h3⟩:=h;refine⟨ad,c,rfl,h1,h2,fun j hj=> ?_⟩;obtain⟨g,f,e,hg,hc⟩:=h3 j hj;exact⟨g,f,e,by have:=hb.size;omega,(hb.cell (p:=⟨g,f+j,none⟩) (jK hg hs)).trans hc⟩
theorem rL.ml {text:B}{w w':World}{e:Ending}(h:rL text w e w'):Below w.heap.size w w'/\∃v c k,e=.returned (.tuple #[v,.int .i64 c,.int .i64 k])/\((¬c=0/\mg text c k)\/(c=0/\k=0/\∃q a z,v=.pointer (some ⟨a,0,none⟩)/\Good text q/\Fz z a w' q)):=by
 obtain⟨hb,h|⟨p,q,E,h1,hq,h2,⟨n,h3,rfl⟩|⟨h3,a,z,rfl,-,hG⟩⟩⟩:=h
 ·obtain⟨c,k,h0,h1,rfl⟩:=h;exact⟨hb,_,_,_,rfl,.inl ⟨by omega,.inl ⟨c,k,h0,h1,rfl,rfl⟩⟩⟩
 ·exact⟨hb,_,_,_,rfl,.inl ⟨by decide,.inr ⟨p,q,E,h1,hq,h2,.inl ⟨n,h3,rfl,rfl⟩⟩⟩⟩
 ·exact⟨hb,_,_,_,rfl,.inr ⟨rfl,rfl,q,a,z,rfl,⟨hq,p,E,h1,h2,h3⟩,hG⟩⟩
theorem dZ {fn:Func}{p u v:Tmp}{ty:TypeId}(h:fn.results= #[.cell p ty,.tmp u,.tmp v])(tmps:Array Value)(P:Program)(w:World)(b:Nat)(cs:List Value)(d:TypeDesc)(hp:tmps.getD p undef=.pointer (some ⟨b,0,none⟩))
  (hc:w.rangeAt b 0 cs) (hu:P.underlying ty=some d) (hd:d.isRow=true) (hi:(P.info? ty).map (·.size)=some cs.length):(results fn tmps).run P w=.ok (.tuple #[.agg cs.toArray,tmps.getD u undef,tmps.getD v undef]) w:=by
 have:=run_loadVar_mid (P:=P) w b 0 ty cs d hc hu hd hi;rw[Array.getD_eq_getD_getElem?]at hp;unfold results;simp[h,hp,asAddr,this]
set_option maxRecDepth 20000 in
set_option maxHeartbeats 2000000 in
theorem Qo (text:B)(vi:Value)(al:List Int)(fuel room:Int)(w:World)(hf:bY w vi al)(pH:∀n∈al,aO n)(h:text.length<=1048576)(E:Env w)(hp:Pow w):
  Calls Tryz.prog 23 #[.string (bs text),vi,.int .i64 fuel,.int .i64 room] w fun e w'=>(∃v c k,Hid (FJ text al fuel room v c k)/\e=.returned (.tuple #[v,.int .i64 c,.int .i64 k]))/\Below w.heap.size w w':=by
 obtain⟨w0,qT⟩:∃w0,w.alloc (.cells #[.int .i64 0,.int .i64 0,.string ⟨#[]⟩,.int .i64 0] 47)=w0:=⟨_,rfl⟩;have fC:Below w.heap.size w w0:=by rw[<-qT];exact(Below.refl _ _).alloc (jC _) _
 have Ol:w0.heap.size=w.heap.size+1:=by rw[<-qT];simp
 have Xi:w0.heap[w.heap.size]?=some (.cells #[.int .i64 0,.int .i64 0,.string ⟨#[]⟩,.int .i64 0] 47 (0,0)):=by rw[<-qT];exact jD
 have K:=EV text w0 h (E.on fC);go_enter Tryz.func23,Tryz.ntmps23
 go_upto_region 1 with fail
 try rw[qT]
 clear qT;have hR:∀W,Below w0.heap.size w0 W->W.heap[w.heap.size]?=some (.cells #[.int .i64 0,.int .i64 0,.string ⟨#[]⟩,.int .i64 0] 47 (0,0)):=fun W hW=>by rw[hW.block _ (by omega)];exact Xi
 have HR:Hid (∀W,Below w0.heap.size w0 W->W.heap[w.heap.size]?=some (.cells #[.int .i64 0,.int .i64 0,.string ⟨#[]⟩,.int .i64 0] 47 (0,0))):=hR;clear hR Xi;go_upto_region 2 with(go_at_call 38;refine K.mono ?_;rintro e w1 ⟨aw,GP⟩;have Cb:Hid (Below w0.heap.size w0 w1):=aw;obtain⟨-,v,c,k,rfl,Kk⟩:=rL.ml ⟨aw,GP⟩;have HP:Hid _:=Kk;clear GP aw Kk)
 rcases HP.out with⟨hc,TX⟩|⟨rfl,rfl,q,a,z,rfl,gX,hG⟩
 ·have cb:(c==0)=false:=by rw[jZ];exact hc
  have HC:Hid (¬c=0/\mg text c k):=⟨hc,TX⟩;clear hc TX HP;have oD:=HR.out w1 Cb.out;obtain⟨d0,d1,d2,d3,f0,f1,f2,f3⟩:=o8 oD;obtain⟨e4,zj⟩:=pV oD (.int .i64 0) (.int .i64 0) (.string ⟨#[]⟩) (.int .i64 0);go_wp2
  refine bodyPost_ret (dZ Tryz.results23 _ _ _ w.heap.size [.int .i64 0,.int .i64 0,.string ⟨#[]⟩,.int .i64 0] _ rfl (fun j u hu=>by rw[Nat.zero_add,cell_of_heap e4];simpa using hu) Tryz.underlying47 rfl ff) rfl ?_;refine⟨⟨_,_,_,.inl ⟨HC.out.2,HC.out.1,rfl⟩,rfl⟩,(fC.trans (Cb.out.mono (by omega))).trans zj⟩
 ·clear HP;have qw:=hp.below fC E.size;have XT:=qw.below Cb.out (by have:=E.size;omega);have oM:11<=w1.heap.size:=by have:=E.size;have:=Cb.out.size;omega
  have pG:bY w1 vi al:=eK (eK hf fC (jC _)) Cb.out (jC _);obtain⟨ad,cap,rfl,-⟩:=id hf;have KM:=fun W=>Ls ad al.length cap fuel 1000 room W
  have HGD:Hid (Good text q):=gX;clear gX;by_cases hm:ll al fuel room
  ·have hd:decide (al.length<=100/\0<=fuel/\fuel<=1000/\0<=room/\room<=50)=true:=decide_eq_true hm;simp only[hd]at KM;have KR:=Ss HGD.out hG (.slice ad al.length cap) al pG pH fuel room hm XT oM;have HM:Hid (ll al fuel room):=hm;clear hm hd qw XT hf pG pH hG K;go_wp2_with (first
    |(go_at_call 43;refine(KM _).mono ?_;rintro e w2 ⟨rfl,rfl⟩)
    |(go_at_call 44;refine KR.mono ?_;rintro e w3 ⟨⟨ans,rfl,HA⟩,lJ⟩;have hr3:=HR.out w3 (Cb.out.trans (lJ.mono Cb.out.size));obtain⟨d0,d1,d2,d3,f0,f1,f2,f3⟩:=o8 hr3;obtain⟨e4,zj⟩:=pV hr3 (.int .i64 ((ans.1:Nat):Int)) (.int .i64 ans.2.1) (.string (bs ans.2.2.yd.text)) (.int .i64 ans.2.2.yd.live);simp only[PE]))
   refine bodyPost_ret (dZ Tryz.results23 _ _ _ w.heap.size [.int .i64 ((ans.1:Nat):Int),.int .i64 ans.2.1,.string (bs ans.2.2.yd.text),.int .i64 ans.2.2.yd.live] _ rfl (fun j u hu=>by rw[Nat.zero_add,cell_of_heap e4];simpa using hu) Tryz.underlying47 rfl ff) rfl ?_;refine⟨⟨_,_,_,.inr (.inr ⟨HM.out,rfl,rfl,q,ans,HGD.out,HA.out,rfl⟩),rfl⟩,((fC.trans (Cb.out.mono (by omega))).trans (lJ.mono (by have:=Cb.out.size;omega))).trans zj⟩
  ·have hd:decide (al.length<=100/\0<=fuel/\fuel<=1000/\0<=room/\room<=50)=false:=decide_eq_false hm;simp only[hd]at KM;have HM:Hid (¬ll al fuel room):=hm;clear hm hd qw XT hf pG pH hG K;have oD:=HR.out w1 Cb.out;obtain⟨d0,d1,d2,d3,f0,f1,f2,f3⟩:=o8 oD;obtain⟨e4,zj⟩:=pV oD (.int .i64 0) (.int .i64 0) (.string ⟨#[]⟩) (.int .i64 0);go_wp2_with (go_at_call 43;refine(KM _).mono ?_;rintro e w2 ⟨rfl,rfl⟩)
   refine bodyPost_ret (dZ Tryz.results23 _ _ _ w.heap.size [.int .i64 0,.int .i64 0,.string ⟨#[]⟩,.int .i64 0] _ rfl (fun j u hu=>by rw[Nat.zero_add,cell_of_heap e4];simpa using hu) Tryz.underlying47 rfl ff) rfl ?_;refine⟨⟨_,_,_,.inr (.inl ⟨HGD.out.chk,HM.out,rfl,rfl,rfl⟩),rfl⟩,(fC.trans (Cb.out.mono (by omega))).trans zj⟩
end RunB
namespace Ex
theorem hereExN:True:=trivial
end Ex
namespace Ex
theorem hereExO:True:=trivial
end Ex
namespace Ex
theorem hereExP:True:=trivial
end Ex
namespace Bal
open Go Sq Go.Proofs.YtmlgajhhnojdjaaGreatDoor.Own
theorem zP:∀(ws:List B),ws≠[]->(∀b∈ws,b≠[])->Lib.join ws [32]≠[]
 |[],h,_=>absurd rfl h
 |[a],_,h=>by rw[Lib.join_one];exact h a (jM ..)
 |a::b::l,_,_=>by
  have e1:Lib.join (a::b::l) [32]=a++32::Lib.join (b::l) [32]:=by simp[Lib.join,List.intercalate,List.intersperse]
  rw[e1];simp
end Bal
namespace Sim
open Go Sq Aux Go.Proofs.YtmlgajhhnojdjaaGreatDoor.Own Mac Ex RefRa PrjS FlwA FlwU FlwV FlwX FlwT
theorem F7 (n:Nat):pA n=Lib.decDigits n:=by
 induction n using Nat.strongRecOn with
 |ind n ih=>
  rw[pA,Lib.decDigits];by_cases h:n<=9
  ·rw[dif_pos h,dif_pos (by omega)];rfl
  ·rw[dif_neg h,dif_neg (by omega),ih (n/10) (by omega)];rfl
theorem Oy (n:Int):su n=Lib.itoa n:=by
 unfold su Lib.itoa;split
 ·rw[F7]
 ·rw[F7,show n.natAbs=n.toNat by omega]
theorem G9:∀(l:List B) (w:B),Lib.join (l++[w]) [32]=if l=[]then w else Lib.join l [32]++32::w
 |[],w=>by rw[List.nil_append,Lib.join_one,jb rfl]
 |[a],w=>by rw[ja (by simp),Lib.join_one];simp[Lib.join,List.intercalate,List.intersperse]
 |a::b::l,w=>by
  have ih:=G9 (b::l) w;rw[ja (by simp)]at ih⊢;have e1:∀r:List B,Lib.join (a::b::r) [32]=a++32::Lib.join (b::r) [32]:=fun r=>by simp[Lib.join,List.intercalate,List.intersperse]
  rw[jW,jW,e1,<-jW,ih,e1];simp
structure Ry (y:Yd)(m:RM):Prop where
 made:y.made=m.boxes
 live:y.live=m.count
 text:m.trace=y.text
 words:∀b∈y.trace,b≠[]
section
variable {y:Yd} {m:RM}
theorem Ry.nil (h:Ry y m):m.trace=[]↔y.trace=[]:=by
 rw[h.text,Yd.text];constructor
 ·intro e;by_cases hn:y.trace=[]
  ·exact hn
  ·exact absurd e (Bal.zP _ hn h.words)
 ·intro e;rw[e];rfl
theorem Ry.note (h:Ry y m)(c:UInt8)(n:Int):Ry (y.note c n) (m.note c n):=by
 refine⟨h.made,h.live,?_,fun b hb=> ?_⟩
 ·show m.trace++ph m c n=Lib.join (y.trace++[c::Lib.itoa n]) [32]
  rw[G9,ph,Oy];by_cases e:y.trace=[]
  ·rw[jb e,jb (h.nil.2 e),h.nil.2 e];rfl
  ·rw[ja e,ja (fun x=>e (h.nil.1 x)),h.text];rfl
 ·rcases List.mem_append.1 hb with hb|hb
  ·exact h.words b hb
  ·rw[jI.1 hb];simp
theorem Ry.at (h:Ry y m)(n:Nat):y.at n=m.box n:=by rw[Yd.at,RM.box,h.made]
theorem Ry.free (h:Ry y m)(n:Nat):Ry (y.free n) (RM.note {m with boxes:=m.boxes.set (n-1) ((m.box n).1,false),count:=m.count-1} 45 ((n:Nat):Int)):=by
 have h1:Ry {y with made:=y.made.set (n-1) ((y.at n).1,false),live:=y.live-1} {m with boxes:=m.boxes.set (n-1) ((m.box n).1,false),count:=m.count-1}:=⟨by rw[h.made,h.at],by rw[h.live],h.text,h.words⟩;exact h1.note 45 _
theorem Ry.build (h:Ry y m)(v:Int):Ry (y.build v) (RM.note {m with boxes:=m.boxes++[(v,true)],count:=m.count+1} 43 ((m.boxes.length+1:Nat):Int)):=by
 have h1:Ry {y with made:=y.made++[(v,true)],live:=y.live+1} {m with boxes:=m.boxes++[(v,true)],count:=m.count+1}:=⟨by rw[h.made],by rw[h.live],h.text,h.words⟩;have h2:=h1.note 43 ((m.boxes.length+1:Nat):Int);rw[Yd.build,h.made];rw[h.made]at h2;exact h2
theorem Ry.load (h:Ry y m)(n:Nat):Ry (y.load n) (m.note 60 ((n:Nat):Int)):=h.note 60 _
theorem Ry.store (h:Ry y m)(n:Nat)(v:Int):Ry (y.store n v) {m.note 62 ((n:Nat):Int)with boxes:=m.boxes.set (n-1) (v,(m.box n).2)}:=by
 have h1:=h.note 62 ((n:Nat):Int);exact⟨by show y.made.set _ _=_;rw[h.made,h.at],h1.live,h1.text,h1.words⟩
theorem Ry.of (h:Ry y m){m':RM}(h1:m'.boxes=m.boxes)(h2:m'.count=m.count)(h3:m'.trace=m.trace):Ry y m':=⟨by rw[h1];exact h.made,by rw[h2];exact h.live,by rw[h3];exact h.text,h.words⟩
end
theorem cJ {α:Type}(s:List α)(i:Nat)(y d:α)(k:Nat):(s.set i y).getD k d=if i=k/\k<s.length then y else s.getD k d:=by
 rw[jA,jd,jA];by_cases h:i=k
 ·subst h;by_cases h2:i<s.length
  ·rw[jb rfl,jb h2,jb ⟨rfl,h2⟩];rfl
  ·rw[jb rfl,ja h2,ja (fun e=>h2 e.2),jG (by omega)]
 ·rw[ja h,ja (fun e=>h e.1)]
section
variable {q:QP} {al:List Int} {b:Br} {m:RM} {pl:Nat×Nat}
end
end Sim
namespace Sim
open Go Sq Aux Go.Proofs.YtmlgajhhnojdjaaGreatDoor.Own Mac Ex RefRa RunB PrjS FlwA FlwU FlwV FlwW FlwX FlwT
section
variable {text:B} {raw:Bool} {p:RP} {q:QP} {w:B}
theorem lP (p:RP)(w:B):ah (p.pk w)=sp p w:=by
 unfold ah RP.pk sp RP.ak;simp only;by_cases h:partOf w=98
 ·rw[jb (xa.2 h),jb h]
 ·rw[ja (fun e=>h (xa.1 e)),ja h];split<;>rfl
theorem dB (x:Nat×Nat):ah x/2=x.1:=by unfold ah;split<;>omega
theorem VK (h:fj text raw p q)(hf:0<=p.find (aj w))(hp:bX w=true):(p.typeOf w=cm↔((p.pk w).2=0/\q.bB (p.pk w).1=2))/\(p.typeOf w=eH↔((p.pk w).2=0/\q.bB (p.pk w).1=3)):=by
 have T:=zE h;obtain⟨j,hj,ou,-⟩:=RP.eA hf;have qv:p.j6 w=p.lT.bB (p.pk w).1:=by
  unfold RP.j6 dU.bB RP.lT RP.rb RP.pk;rw[hj];simp only[Int.toNat_natCast];rw[jA,jA,jJ,jB ou];rfl
 have AZ:=lL hp;have e2:(p.pk w).2=iz (partOf w):=rfl;rw[T.pair,T.opt,<-qv,e2];unfold RP.typeOf;rcases AZ with e|e|e|e<;>rw[e]
 ·rw[ja (by decide),ja (by decide)];exact⟨⟨fun x=>⟨rfl,x⟩,fun x=>x.2⟩,⟨fun x=>⟨rfl,x⟩,fun x=>x.2⟩⟩
 ·rw[jb (.inl rfl)];exact⟨⟨fun x=>(by split at x<;>exact absurd x (by decide)),fun x=>absurd x.1 (by decide)⟩,⟨fun x=>(by split at x<;>exact absurd x (by decide)),fun x=>absurd x.1 (by decide)⟩⟩
 ·rw[jb (.inr rfl)];exact⟨⟨fun x=>(by split at x<;>exact absurd x (by decide)),fun x=>absurd x.1 (by decide)⟩,⟨fun x=>(by split at x<;>exact absurd x (by decide)),fun x=>absurd x.1 (by decide)⟩⟩
 ·rw[ja (by decide),jb (by decide)];exact⟨⟨fun x=>(by split at x<;>exact absurd x (by decide)),fun x=>absurd x.1 (by decide)⟩,⟨fun x=>(by split at x<;>exact absurd x (by decide)),fun x=>absurd x.1 (by decide)⟩⟩
theorem yk (h:fj text raw p q)(hf:0<=p.find (aj w))(hp:bX w=true):(p.ak w).2=(QP.ae q (p.pk w)).length/\(QP.ae q (p.pk w)).map ah=List.range' (sp p w) (p.ak w).2:=by
 obtain⟨h1,-⟩:=VK h hf hp;rw[<-lP];unfold RP.ak QP.ae;by_cases e:partOf w=98
 ·have e2:¬(p.pk w).2=0:=by show¬iz (partOf w)=0;rw[e];decide
  rw[jb e,ja (fun x=>e2 x.1)];exact⟨rfl,rfl⟩
 ·rw[ja e];by_cases e2:p.typeOf w=cm
  ·rw[jb e2,jb (h1.1 e2)];refine⟨rfl,?_⟩;unfold ah;simp only[List.map_cons,List.map_nil];rw[ja (by decide),jb trivial,ja (by rw[(h1.1 e2).1];decide)];rfl
  ·rw[ja e2,ja (fun x=>e2 (h1.2 x))];exact⟨rfl,rfl⟩
end
section
variable {text:B} {p:RP} {q:QP} {l:ab} {ws:List B} {al:List Int} {b:Br} {m:RM} {f:Fx}
theorem mG {i:Nat}(h:m.has.getD i false=true):m.bE i=m:=by unfold RM.bE;rw[jb h]
end
end Sim
namespace Sim
open Go Sq Aux Go.Proofs.YtmlgajhhnojdjaaGreatDoor.Own Mac Ex RefRa RunA RunB PrjS FlwA FlwU FlwV FlwW FlwX FlwT
section
variable {text:B} {p:RP} {q:QP} {l:ab} {ws:List B} {al:List Int} {b:Br} {m:RM} {f:Fx}
theorem GF {x y:Nat×Nat}(h:q.bt x=q.bt y)(hx:x.2<=3)(hy:y.2<=3):(QP.ae q x).length=(QP.ae q y).length:=by
 have key:∀z:Nat×Nat,z.2<=3->((z.2=0/\q.bB z.1=2)↔q.bt z=2):=fun z hz=>by
  unfold QP.bt;split
  ·exact⟨fun e=>by omega,fun e=>by omega⟩
  ·exact⟨fun e=>e.2,fun e=>⟨by omega,e⟩⟩
 unfold QP.ae;by_cases e:x.2=0/\q.bB x.1=2
 ·rw[jb e,jb ((key y hy).2 (h▸(key x hx).1 e))];rfl
 ·rw[ja e,ja (fun e2=>e ((key x hx).2 (h.trans ((key y hy).1 e2))))];rfl
end
end Sim
namespace Sim
open Go Sq Aux Go.Proofs.YtmlgajhhnojdjaaGreatDoor.Own Mac Ex RefRa RunA RunB PrjS FlwA FlwU FlwV FlwW FlwX FlwT
theorem xg (f:Fx)(p:RP)(al:List Int){m:RM}(h:¬m.out=0)(n at':Nat):eS f p al n at' m=m:=by
 cases n with
 |zero=>rw[eS,ja h]
 |succ n=>rw[eS,jb h]
theorem zH:∀op:Fin 23,ends (bJ op.val)=decide (18<=op.val):=by decide
theorem Xa:∀op:Fin 23,bJ op.val=[101,110,100]↔op.val=22:=by decide
section
variable {text:B} {raw:Bool} {p:RP} {q:QP} {l:ab} {ws:List B} {al:List Int} {b:Br} {m:RM} {f:Fx}
theorem Sk (h:fj text raw p q){i:Nat}(hb:p.body i):p.aH i∈q.blocks.getD (p.aJ i) []:=by
 rw[h.block,List.mem_map];refine⟨i,?_,rfl⟩;unfold vF;have:=(h.ok.bZ hb).2;simp only[List.mem_filter,List.mem_range,beq_iff_eq];exact⟨⟨hb.1,dY.mpr hb.2⟩,by unfold RP.aJ;omega⟩
theorem Um (h:fj text raw p q){i:Nat}(hb:p.body i):Lk p (p.line i) (p.aH i):=lk_of h.ok.pre hb.1 (dY.mpr hb.2) (h.ok.names i hb.1)
def oq (p:RP)(at':Nat):Prop:=p.body at'\/(at'<p.lines.length/\ao (p.line at')=true)
def mC (p:RP)(at':Nat):Nat:=if ao (p.line at')then at'+1 else at'
theorem oq.line (h:aF text raw p){at':Nat}(hs:oq p at'):p.body (mC p at'):=by
 unfold mC;rcases hs with hb|⟨h1,h2⟩
 ·rw[hb.2.2,ja (by decide)];exact hb
 ·rw[jb h2];exact h.lF h1 h2
theorem xB {i:Nat}(hb:p.body i):mC p i=i:=by unfold mC;rw[hb.2.2,ja (by decide)]
theorem vc (h:fj text raw p q){j:Nat}(hj:j<q.blocks.length):oq p (p.blocks.getD j 0)/\q.blocks.getD j []=rE p (mC p (p.blocks.getD j 0)):=by
 rw[h.len]at hj;obtain⟨h1,h2,-⟩:=RP.kj h.ok.pre.blocks hj;refine⟨.inr ⟨h1,h2⟩,?_⟩;unfold mC;rw[jb h2];exact JO h hj
end
end Sim
namespace Bal
open Go Sq Aux Go.Proofs.YtmlgajhhnojdjaaGreatDoor.Own RunA RunB PrjS FlwA FlwB FlwC FlwD FlwE FlwF FlwG FlwH FlwS FlwY
def Real (q:QP)(k:Nat):Prop:=∃i,i<q.locals.length/\k∈(QP.ae q (i,0)).map ah
structure gy (q:QP)(hs:List Nat)(o:Own.Own):Prop where
 len:o.boxes.length=24
 y:kH (hs++o.boxes) o.yd
 real:∀k,¬o.boxes.getD k 0=0->Real q k
section
variable {q:QP} {hs:List Nat} {o:Own.Own}
theorem C1 {l:List Nat}{k v n:Nat}(hk:k<l.length)(_hn:1<=n):(l.set k v).count n+(if l.getD k 0=n then 1 else 0)=l.count n+(if v=n then 1 else 0):=by
 rw[List.count_set hk];have e:l.getD k 0=l[k]:=by rw[jA,jB hk];rfl
 rw[e];simp only[beq_iff_eq];split
 ·rename_i h;have:1<=l.count n:=List.count_pos_iff.2 (h▸jL _);omega
 ·omega
theorem rY (h:gy q hs o){p:Nat×Nat}(hp:ah p<24):gy q (o.box p::hs) (o.clear p):=by
 refine⟨by simpa [Own.clear]using h.len,h.y.congr fun n hn=> ?_,fun k hk=>h.real k fun e=>hk ?_⟩
 ·show(o.box p::(hs++o.boxes.set (ah p) 0)).count n=_
  have:=C1 (l:=o.boxes) (k:=ah p) (v:=0) (by rw[h.len];exact hp) hn;rw[ja (show¬0=n by omega)]at this;rw[List.count_cons,List.count_append,List.count_append];simp only[Own.box,beq_iff_eq];omega
 ·show(o.boxes.set (ah p) 0).getD k 0=0
  rw[dA];split
  ·rfl
  ·exact e
theorem BS:∀(ps:List (Nat×Nat)) {hs:List Nat} {o:Own.Own},gy q hs o->(∀p∈ps,ah p<24)->gy q ((Own.take ps o).1++hs) (Own.take ps o).2
 |[],_,_,h,_=>h
 |p::ps,hs,o,h,hp=>by
  rw[Own.take];have:=BS ps (rY h (hp p (jM ..))) (fun x hx=>hp x (jN _ hx));refine⟨this.len,this.y.congr fun n hn=> ?_,this.real⟩;simp only[List.count_append,List.count_cons,List.cons_append];omega
theorem N3 {n:Nat}(h:gy q (n::hs) o):gy q hs (o.eO n):=by
 unfold Own.eO;split
 ·rename_i e;subst e;exact⟨h.len,h.y.congr fun n hn=>by rw[jW,List.count_cons,ja (by simp;omega)];rfl,h.real⟩
 ·rename_i e;exact⟨h.len,kH.free h.y (by omega),h.real⟩
theorem Da:∀(ns:List Nat) {o:Own.Own},gy q (ns++hs) o->gy q hs (Own.fB ns o)
 |[],_,h=>h
 |n::ns,o,h=>by rw[Own.fB];exact Da ns (N3 h)
theorem oJ (ps:List (Nat×Nat))(h:gy q hs o)(hp:∀p∈ps,ah p<24):gy q hs (o.drop ps):=Da _ (BS ps h hp)
theorem take_zero:∀(ps:List (Nat×Nat)) (o:Own.Own) (k:Nat),k∈ps.map ah\/o.boxes.getD k 0=0->(Own.take ps o).2.boxes.getD k 0=0
 |[],_,_,h=>h.resolve_left (by simp)
 |p::ps,o,k,h=>by
  rw[Own.take];refine take_zero ps (o.clear p) k ?_;by_cases hm:k∈ps.map ah
  ·exact .inl hm
  ·refine .inr ?_;show(o.boxes.set (ah p) 0).getD k 0=0
   rw[dA];split
   ·rfl
   ·rename_i ec;rcases h with h|h
    ·rw[List.map_cons,jP]at h;rcases h with h|h
     ·have:¬k<o.boxes.length:=fun hk=>ec ⟨h.symm,hk⟩
      rw[jA,jG (by omega)];rfl
     ·exact absurd h hm
    ·exact h
theorem drop_zero (ps:List (Nat×Nat))(o:Own.Own){k:Nat}(h:k∈ps.map ah\/o.boxes.getD k 0=0):(o.drop ps).boxes.getD k 0=0:=by
 rw[(im ps o).2.2.2];exact take_zero ps o k h
theorem IG {p:Nat×Nat}{n:Nat}(h:gy q (n::hs) o)(hp:ah p<24)(hz:o.boxes.getD (ah p) 0=0)(hr:Real q (ah p)):gy q hs (o.sA p n):=by
 refine⟨by simpa [Own.sA]using h.len,h.y.congr fun m hm=> ?_,fun k hk=> ?_⟩
 ·show(hs++o.boxes.set (ah p) n).count m=(n::hs++o.boxes).count m
  have:=C1 (l:=o.boxes) (k:=ah p) (v:=n) (by rw[h.len];exact hp) hm;rw[hz,ja (show¬0=m by omega)]at this;rw[jW,List.count_cons,List.count_append,List.count_append];simp only[beq_iff_eq];omega
 ·by_cases e:ah p=k
  ·exact e▸hr
  ·refine h.real k fun e2=>hk ?_
   show(o.boxes.set (ah p) n).getD k 0=0
   rw[dA,ja (fun x=>e x.1)];exact e2
theorem IH:∀(ps:List (Nat×Nat)) (ns:List Nat) {o:Own.Own},ps.length=ns.length->(ps.map ah).Nodup->(∀p∈ps,ah p<24/\o.boxes.getD (ah p) 0=0/\Real q (ah p))->gy q (ns++hs) o->gy q hs (Own.o7 ps ns o)
 |[],[],_,_,_,_,h=>h
 |[],_::_,_,hl,_,_,_=>by cases hl
 |_::_,[],_,hl,_,_,_=>by cases hl
 |p::ps,n::ns,o,hl,hd,hp,h=>by
  rw[Own.o7];obtain⟨h1,h2,h3⟩:=hp p (jM ..);rw[List.map_cons,List.nodup_cons]at hd;refine IH ps ns (o:=o.sA p n) (by simpa using hl) hd.2 (fun x hx=> ?_) (IG h h1 h2 h3);obtain⟨g1,g2,g3⟩:=hp x (jN _ hx);refine⟨g1,?_,g3⟩;show(o.boxes.set (ah p) n).getD (ah x) 0=0
  rw[dA,ja (fun e=>hd.1 (List.mem_map.2 ⟨x,hx,e.1.symm⟩))];exact g2
theorem Ie (ts frm:List (Nat×Nat))(h:gy q [] o)(hl:ts.length=frm.length)(hd:(ts.map ah).Nodup)(hf:∀p∈frm,ah p<24)(ht:∀p∈ts,ah p<24/\Real q (ah p)):gy q [] (o.move ts frm):=by
 unfold Own.move;refine IH ts _ (by rw[Go.Proofs.YtmlgajhhnojdjaaGreatDoor.Own.take_len];exact hl) hd (fun p hp=>⟨(ht p hp).1,drop_zero ts _ (.inl (List.mem_map.2 ⟨p,hp,rfl⟩)),(ht p hp).2⟩) ?_;exact oJ ts (BS frm h hf) (fun p hp=>(ht p hp).1)
theorem Vq {p:Nat×Nat}(h:gy q [] o)(hp:ah p<24)(hr:Real q (ah p))(v:Int):gy q [] ((o.drop [p]).new p v):=by
 have h1:=oJ [p] h (fun x hx=>by rw[jI.1 hx];exact hp);have hz:=drop_zero [p] o (k:=ah p) (.inl (by simp));have h2:gy q [(o.drop [p]).yd.made.length+1] {o.drop [p]with yd:=(o.drop [p]).yd.build v}:=⟨h1.len,kH.build h1.y v,h1.real⟩;exact IG h2 hp hz hr
theorem PL (q:QP)(al:List Int):gy q [] (Own.start al):=by
 have hz:∀k,(Own.start al).boxes.getD k 0=0:=fun k=>by
  show(List.replicate 24 0).getD k 0=0
  rw[jA,jO];split<;>rfl
 refine⟨by simp[Own.start],⟨fun _=>rfl,fun n hn=> ?_,rfl,fun b hb=>by cases hb⟩,fun k hk=>absurd (hz k) hk⟩;show(List.replicate 24 0).count n=0
 rw[List.count_eq_zero];intro hm;have:=List.eq_of_mem_replicate hm;omega
theorem Fb {x:Nat×Nat}(hx:x.1<12):ah x<24:=by unfold ah;split<;>omega
theorem EZ {x:Nat×Nat}{c:UInt8}(hx:x.1<q.locals.length)(h3:x.2<=3)(hk:q.bK x c=true):∀p∈QP.ae q x,Real q (ah p):=fun p hp=>by
 refine⟨x.1,hx,?_⟩;obtain⟨i,t⟩:=x;unfold QP.bK QP.kind at hk;simp only at hx h3 hk⊢;have ht:t=0\/t=1\/t=2\/t=3:=by omega
 rcases ht with rfl|rfl|rfl|rfl
 ·exact List.mem_map.2 ⟨p,hp,rfl⟩
 ·have h2:q.bB i=2:=by
   by_cases e:q.bB i=2
   ·exact e
   ·simp[e]at hk
  rcases bI q (i,1)with⟨e,-⟩|⟨-,e,-⟩
  ·rw[e,jI]at hp;subst hp;unfold QP.ae;rw[jb ⟨rfl,h2⟩];simp
  ·cases e
 ·have h2:q.bB i=2:=by
   by_cases e:q.bB i=2
   ·exact e
   ·simp[e]at hk
  rcases bI q (i,2)with⟨e,-⟩|⟨-,e,-⟩
  ·rw[e,jI]at hp;subst hp;unfold QP.ae;rw[jb ⟨rfl,h2⟩];simp
  ·cases e
 ·have h2:q.bB i=3:=by
   by_cases e:q.bB i=3
   ·exact e
   ·simp[e]at hk
  rcases bI q (i,3)with⟨e,-⟩|⟨-,e,-⟩
  ·rw[e,jI]at hp;subst hp;unfold QP.ae;rw[ja (by simp;omega)];simp[ah]
  ·cases e
variable {l:ab}
theorem cD (cg:q.locals.length<=12){x:Nat×Nat}(hx:x.1<q.locals.length):∀p∈QP.ae q x,ah p<24:=fun p hp=>by
 rcases bI q x with⟨e,-⟩|⟨e,-⟩<;>rw[e]at hp<;>simp at hp
 ·rw[hp];exact Fb (by omega)
 ·rcases hp with rfl|rfl<;>exact Fb (by simp;omega)
theorem vz (q:QP)(x:Nat×Nat):((QP.ae q x).map ah).Nodup:=by
 rcases bI q x with⟨e,-⟩|⟨e,-⟩<;>rw[e]
 ·simp
 ·simp[ah]
theorem ME {p:Nat×Nat}(h:1<=o.box p):o.box p∈[]++o.boxes:=by
 unfold Own.box at*;rw[List.nil_append];rcases Nat.lt_or_ge (ah p) o.boxes.length with h1|h1
 ·rw[jA,jB h1];exact jL _
 ·rw[jA,jG h1]at h;exact absurd h (by decide)
theorem Si (cg:q.locals.length<=12)(hl:kI q l)(FE:ko l.op)(hn:o.bE l=true)(h:gy q [] o):gy q [] (o.fz q l):=by
 have hints:∀v,gy q [] {o with ints:=v}:=fun v=>⟨h.len,h.y,h.real⟩
 rcases FE with e|e|e|e|e|e|e|e|e|e|e|e
 ·rw[Own.fz,jb e];exact⟨h.len,h.y,h.real⟩
 ·rw[Own.fz,ja (by omega),jb (by omega)];exact⟨h.len,h.y,h.real⟩
 ·rw[Own.fz,ja (by omega),jb (by omega)];exact⟨h.len,h.y,h.real⟩
 ·rw[Own.fz,ja (by omega),jb (by omega)];exact⟨h.len,h.y,h.real⟩
 ·rw[Own.fz,ja (by omega),ja (by omega),jb (by omega)];exact⟨h.len,h.y,h.real⟩
 ·rw[Own.fz,ja (by omega),ja (by omega),ja (by omega),jb (by omega)];exact⟨h.len,h.y.out _,h.real⟩
 ·rw[Own.bE,jb e]at hn;rw[Own.fz,ja (by omega),ja (by omega),ja (by omega),ja (by omega),jb (by omega)];exact⟨h.len,h.y.load (of_decide_eq_true hn) (ME (of_decide_eq_true hn)),h.real⟩
 ·rw[Own.bE,ja (by omega),jb e]at hn;rw[Own.fz,ja (by omega),ja (by omega),ja (by omega),ja (by omega),ja (by omega),jb (by omega)];exact⟨h.len,h.y.store (of_decide_eq_true hn) (ME (of_decide_eq_true hn)) _,h.real⟩
 ·have hlen:l.places.length=2:=by rw[hl.ok.cQ,e];rfl
  have p0:=er hl (j:=0) (by omega);have p1:=er hl (j:=1) (by omega);rw[Own.fz,ja (by omega),ja (by omega),ja (by omega),ja (by omega),ja (by omega),ja (by omega),jb (by omega)];exact Ie _ _ h (rq hl e) (vz q _) (cD cg p1.1) (fun p hp=>⟨cD cg p0.1 p hp,EZ p0.1 p0.2 (eU hl.fits (j:=0) (by omega)) p hp⟩)
 ·have hlen:l.places.length=1:=by rw[hl.ok.cQ,e];rfl
  rw[Own.fz,ja (by omega),ja (by omega),ja (by omega),ja (by omega),ja (by omega),ja (by omega),ja (by omega),jb (by omega)];exact oJ _ h (cD cg (er hl (j:=0) (by omega)).1)
 ·have hlen:l.places.length=2:=by rw[hl.ok.cQ,e];rfl
  have p0:=er hl (j:=0) (by omega);have p1:=er hl (j:=1) (by omega);obtain⟨e0,e1,-⟩:=rv hl e;rw[Own.fz,ja (by omega),ja (by omega),ja (by omega),ja (by omega),ja (by omega),ja (by omega),jb (by omega)];exact Ie _ _ h (by rw[e0,e1];rfl) (vz q _) (cD cg p1.1) (fun p hp=>⟨cD cg p0.1 p hp,EZ p0.1 p0.2 (eU hl.fits (j:=0) (by omega)) p hp⟩)
 ·have hlen:l.places.length=1:=by rw[hl.ok.cQ,e];rfl
  rw[Own.fz,ja (by omega),ja (by omega),ja (by omega),ja (by omega),ja (by omega),ja (by omega),ja (by omega),jb (by omega)];exact oJ _ h (cD cg (er hl (j:=0) (by omega)).1)
theorem Q2 (hl:kI q l)(ax:l.op=9):(ai l 0).1<q.locals.length/\∃c,(ai l 0).2<=3/\q.bK (ai l 0) c=true/\QP.ae q (ai l 0)=[ai l 0]:=by
 have hlen:l.places.length=2:=by rw[hl.ok.cQ,ax];rfl
 have p0:=er hl (j:=0) (by omega);have k0:=eU hl.fits (j:=0) (by omega);refine⟨p0.1,_,p0.2,k0,?_⟩;rw[ax]at k0;have o0:=qX (x:=ai l 0) k0;rcases bI q (ai l 0)with⟨e,-⟩|⟨-,e1,e2⟩
 ·exact e
 ·exact absurd ⟨e1,e2⟩ o0.2.1
theorem lU (cg:q.locals.length<=12):RunB.Steps q (fun s o=>j8 q s o/\gy q [] o) where
 fz:=fun l s o hl FE hs hf h=>by
  obtain⟨h1,h2⟩:=(lZ cg).fz l s o hl FE hs hf h.1;exact⟨h1,h2,Si cg hl FE h1 h.2⟩
 Zj:=fun l s o hl ax hs hf h=>⟨(lZ cg).Zj l s o hl ax hs hf h.1,h.2.len,h.2.y,h.2.real⟩
 new:=fun l s o hl ax hs hf h=>by
  obtain⟨h1,c,h2,h3,h4⟩:=Q2 hl ax;refine⟨(lZ cg).new l s o hl ax hs hf h.1,Vq h.2 (Fb (by omega)) ?_ _⟩;exact EZ h1 h2 h3 _ (by rw[h4];simp)
 term:=fun l s o hl ax hs hf h=>⟨(lZ cg).term l s o hl ax hs hf h.1,h.2⟩
 mono:=fun s t o hs ht hle h=>⟨(lZ cg).mono s t o hs ht hle h.1,h.2⟩
end
end Bal
end Go.Proofs.YtmlgajhhnojdjaaGreatDoor

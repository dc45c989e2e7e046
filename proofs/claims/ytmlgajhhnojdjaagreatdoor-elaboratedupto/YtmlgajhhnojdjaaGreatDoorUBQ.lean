import Derived.Test.YtmlgajhhnojdjaaGreatDoorUBP
set_option maxHeartbeats 8000000
namespace Go.Proofs.YtmlgajhhnojdjaaGreatDoor
namespace Ex
open Go Sq Aux Go.Proofs.YtmlgajhhnojdjaaGreatDoor.Own RunA RunB PrjQ PrjS FlwA PrjH
def Fl (l:ab):Prop:=l.op=17\/l.op=21->0<=l.flag/\l.flag<50
theorem lK (ls:List (B×Nat))(nb:Nat):∀(f:B) (ws:List B) (l0 l:ab),(∀c∈f,¬c=102)->bQ ls nb f ws l0=some l->l.flag=l0.flag
 |[],ws,l0,l,_,h=>by simp only[bQ,Option.some.injEq]at h;rw[h]
 |c::f,ws,l0,l,hc,h=>by
  have h1:=hc c (jM ..);have h2:∀d∈f,¬d=102:=fun d hd=>hc d (jN _ hd)
  rw[bQ]at h;by_cases c1:c=35\/c=118
  ·rw[jb c1]at h;have e:=lK ls nb f (ws.drop 1) _ l h2 h;exact e
  ·rw[ja c1,ja h1]at h;by_cases c3:c=98
   ·rw[jb c3]at h;split at h
    ·cases h
    ·have e:=lK ls nb f (ws.drop 1) _ l h2 h;exact e
   ·rw[ja c3]at h;split at h
    ·cases h
    ·have e:=lK ls nb f (ws.drop 1) _ l h2 h;exact e
theorem Si {ls:List (B×Nat)}{nb:Nat}{ws:List B}{x:Nat×List B}{l:ab}(hs:db ws=some x)(h:dw ls nb x=some l):Fl l:=fun ho=>by
 have ak:=zC h;unfold db at hs;split at hs
 ·cases hs
 ·rename_i op _;split at hs
  ·rename_i hf;cases hs
   simp only at ak;unfold dw at h;simp only at h;have key:∀r:B,(∀c∈r,¬c=102)->ah op=102::r->0<=l.flag/\l.flag<50:=fun r hr e=>by
    rw[e]at h hf;rw[bQ,ja (by decide),jb rfl]at h;have e2:=lK ls nb r _ _ l hr h;simp only at e2;obtain⟨hlen,RH⟩:=hf;have h3:du (word (ws.drop 1) 0) 102=true:=by
     simp only[bc,Bool.and_eq_true]at RH;exact RH.1
    have h4:du (word (ws.drop 1) 0) 102=(match aH (word (ws.drop 1) 0)with|some n=>decide (n<50)|none=>false):=rfl;rw[h4]at h3;have h5:=fa (word (ws.drop 1) 0);cases hd:aH (word (ws.drop 1) 0)with
    |none=>rw[hd]at h3;cases h3
    |some n=>
     rw[hd]at h3 e2 h5;have hn:n<50:=of_decide_eq_true h3;rw[e2];exact⟨h5.1,hn⟩
   rcases ho with e|e
   ·rw[ak]at e;subst e;exact key [118] (by decide) rfl
   ·rw[ak]at e;subst e;exact key [98,98] (by decide) rfl
  ·cases hs
theorem S2 (raw:Bool)(nb:Nat):∀(ls:List (List B)) (o:eA) (i j:Nat) (q0 q:QP),(ay raw ls o i).2.2=none->aR nb (ay raw ls o i).1 j q0=(q,none)->(∀b∈q0.blocks,∀l∈b,Fl l)->∀b∈q.blocks,∀l∈b,Fl l
 |[],o,i,j,q0,q,_,h,hs=>by
  simp only[ay,aR,Prod.mk.injEq,and_true]at h;rw[<-h];exact hs
 |ws::r,o,i,j,q0,q,hn,h,hs=>by
  rw[ay]at hn h;cases hx:db ws with
  |none=>rw[hx]at hn;cases hn
  |some x=>
   rw[hx]at hn h;simp only at hn h;by_cases ha:(aD raw o x.1).2=true
   ·rw[jb ha]at hn h;have ih:=fun q1 hl iQ=>S2 raw nb r (aD raw o x.1).1 (i+1) (j+1) q1 q hn hl iQ
    simp only at h;rw[aR]at h;by_cases e0:x.1=0
    ·rw[jb e0]at h;split at h
     ·simp at h
     ·exact ih _ h hs
    ·rw[ja e0]at h;by_cases e1:x.1=1
     ·rw[jb e1]at h;refine ih _ h fun b hb l hl=> ?_
      simp only[QP.addBlock,List.mem_append,List.mem_singleton]at hb;rcases hb with hb|rfl
      ·exact hs b hb l hl
      ·cases hl
     ·rw[ja e1]at h;cases hl:dw q0.locals nb x with
      |none=>rw[hl]at h;simp at h
      |some l=>
       rw[hl]at h;refine ih _ h fun b hb m hm=> ?_
       have lf:=Si hx hl;simp only[QP.addLine,List.mem_append,List.mem_singleton]at hb;rcases hb with hb|rfl
       ·exact hs b ((List.dropLast_sublist _).subset hb) m hm
       ·rcases List.mem_append.1 hm with hm|hm
        ·rw[List.getLastD_eq_getLast?]at hm;cases hq:q0.blocks.getLast? with
         |none=>rw[hq]at hm;cases hm
         |some c=>rw[hq]at hm;exact hs c (List.mem_of_getLast? hq) m hm
        ·rw[jI.1 hm];exact lf
   ·rw[ja ha]at hn;cases hn
structure TP (q:QP):Prop where
 whole:∀b,b<q.blocks.length->Whole (q.blocks.getD b [])
 lines:∀b,∀l∈q.blocks.getD b [],iq true l.op=true/\q.fits l=true/\Fl l
theorem vw {text:B}{q:QP}(h:az text true=(some q,0,0)):TP q:=by
 by_cases hlong:(split 10 text).length>(if true=true then 4000 else 120)
 ·rw[az,jb hlong]at h;cases h
 ·rw[az,ja hlong]at h;split at h
  ·cases h
  ·rename_i xX;split at h
   ·cases h
   ·rename_i pN;split at h
    ·cases h
    ·rename_i mu;split at h
     ·cases h
     ·rename_i Dh;simp only[Prod.mk.injEq,Option.some.injEq,and_true]at h;have hs:=Jn true (countB (ay true (br text) ⟨0,0,0⟩ 0).1) (br text) ⟨0,0,0⟩ 0 0 QP.empty q xX (by rw[<-h,<-mu]) ⟨fun _=>rfl,fun h=>(by cases h),fun h=>(by cases h),fun b hb=>by simp[QP.empty]at hb,by simp⟩;have hg:=S2 true (countB (ay true (br text) ⟨0,0,0⟩ 0).1) (br text) ⟨0,0,0⟩ 0 0 QP.empty q xX (by rw[<-h,<-mu]) (fun b hb=>by simp[QP.empty]at hb);rw[h]at Dh;refine⟨fun b hb=>hs.Y9 (by simpa using pN) _ (by simp[hb]),fun b l hl=>⟨hs.has _ (dn hl) l hl,?_,hg _ (dn hl) l hl⟩⟩;simp only[QP.misfit,Option.map_eq_none_iff,List.find?_eq_none,Bool.not_eq_true',Bool.not_eq_false]at Dh;exact Dh l (List.mem_flatten.mpr ⟨_,dn hl,hl⟩)
theorem Jh {q:QP}{l:ab}(hk:fY q.locals.length q.blocks.length l)(h:iq true l.op=true/\q.fits l=true/\Fl l):GU q l:=
 ⟨hk,fun e=>by rw[e]at h;exact absurd h.1 (by decide),h.2.1,h.2.2⟩
end Ex
namespace Ex
open Go Go.RowKit Sq Aux Go.Proofs.YtmlgajhhnojdjaaGreatDoor.Own RunA RunB RefM PrjG PrjJ PrjK PrjM PrjS PrjW PrjX FlwA FlwP FlwQ FlwV FlwY FlwZ FlwZa
def kh (aO:List Int)(fuel room:Int):Prop:=aO.length<=100/\0<=fuel/\fuel<=200000/\0<=room/\room<=50
def tD (text:B)(aO:List Int)(fuel room:Int)(v:Value)(c k:Int):Prop:=
 (∃c' k':Nat,1<=c'/\az text true=(none,c',k')/\c=c'/\k=k'/\v=tv)\/((∃q,az text true=(some q,0,0))/\¬kh aO fuel room/\v=tv/\c=6/\k=0)\/
  (kh aO fuel room/\c=0/\k=0/\∃q bX,az text true=(some q,0,0)/\da q room fuel.toNat (q.blocks.getD 0 []) (Br.start aO)=some bX/\v=Jg bX)
theorem Ku {text:B}{q:QP}(h:az text true=(some q,0,0))(aO:List Int)(room:Int)(f:Nat):∃bX,da q room f (q.blocks.getD 0 []) (Br.start aO)=some bX/\od q bX.2.2/\(bX.1=1\/bX.1=2\/bX.1=3\/bX.1=4\/bX.1=5)/\bX.2.2.yd.made.length<=0+f:=by
 obtain⟨-,-,p,hp,hB⟩:=gq h;have hS:=vw h;have UE:0<q.blocks.length:=by rw[hB.len];exact hB.ok.first.1
 have pK:∀j,∀l∈q.blocks.getD j [],GU q l:=fun j l hl=>Jh (hB.Kt.lines _ (dn hl) l hl) (hS.lines j l hl)
 exact p5 hB.k8 room hS.whole pK f _ _ (hS.whole 0 UE) (pK 0) (rW q aO)
theorem Mz {text:B}{q:QP}(hg:az text true=(some q,0,0)){z a:Nat}{w:World}(hG:AR z a w q)(vi:Value)(aO:List Int)(hf:cy w vi aO)(lv:∀n∈aO,bC n)(fuel room:Int)(hm:kh aO fuel room)(iD:Pow w)(iG:11<=w.heap.size):
  Calls Tryz.prog 49 #[.pointer (some ⟨a,0,none⟩),vi,.int .i64 fuel,.int .i64 room] w fun e w'=>(∃bX,e=.returned (Jg bX)/\Hid (da q room fuel.toNat (q.blocks.getD 0 []) (Br.start aO)=some bX))/\Below w.heap.size w w':=by
 obtain⟨-,h0,h1,h2,h3⟩:=hm;obtain⟨f,rfl⟩:∃f:Nat,fuel=f:=⟨fuel.toNat,by omega⟩;obtain⟨r,rfl⟩:∃r:Nat,room=r:=⟨room.toNat,by omega⟩;obtain⟨-,-,p,hp,hB⟩:=gq hg;have hS:=vw hg;have UE:0<q.blocks.length:=by rw[hB.len];exact hB.ok.first.1
 have pK:∀j,∀l∈q.blocks.getD j [],GU q l:=fun j l hl=>Jh (hB.Kt.lines _ (dn hl) l hl) (hS.lines j l hl)
 obtain⟨bX,ha,-⟩:=Ku hg aO (r:Nat) f;obtain⟨vl,vb,us,vss,hP⟩:=hG.at_;refine(NW hP vi aO hf lv f r (by omega) UE hB.k8 hB.Kt hG.lines pK iD iG ha).mono ?_;rintro e w' ⟨rfl,hb⟩;exact⟨⟨bX,rfl,ha⟩,hb⟩
theorem vy {text:B}{w w':World}{e:Ending}(h:de text true w e w'):Below w.heap.size w w'/\∃v c k,e=.returned (.tuple #[v,.int .i64 c,.int .i64 k])/\((¬c=0/\∃c' k':Nat,1<=c'/\az text true=(none,c',k')/\c=c'/\k=k')\/(c=0/\k=0/\∃q a z,v=.pointer (some ⟨a,0,none⟩)/\az text true=(some q,0,0)/\AR z a w' q)):=by
 obtain⟨hb,v,rfl,hv⟩:=h;refine⟨hb,v,_,_,rfl,?_⟩;cases hr:az text true with
 |mk op ck=>
  obtain⟨c,k⟩:=ck;rw[hr]at hv;cases op with
  |none=>
   obtain⟨h1,-⟩:=xr hr;exact .inl ⟨by show¬((c:Nat):Int)=0;omega,c,k,h1,rfl,rfl,rfl⟩
  |some q=>
   obtain⟨rfl,rfl,-⟩:=gq hr;rcases hv with⟨h1,-⟩|⟨q',a,z,h1,rfl,-,hG⟩
   ·cases h1
   ·cases h1
    exact .inr ⟨rfl,rfl,q,a,z,rfl,rfl,hG⟩
set_option maxRecDepth 20000 in
theorem Lb (text:B)(vi:Value)(aO:List Int)(fuel room:Int)(w:World)(hf:cy w vi aO)(lv:∀n∈aO,bC n)(h:text.length<=1048576)(E:Env w)(hp:Pow w):
  Calls Tryz.prog 31 #[.string (bs text),vi,.int .i64 fuel,.int .i64 room] w fun e w'=>(∃v c k,Hid (tD text aO fuel room v c k)/\e=.returned (.tuple #[v,.int .i64 c,.int .i64 k]))/\Below w.heap.size w w':=by
 obtain⟨w0,o8⟩:∃w0,w.alloc (.cells #[.int .i64 0,.int .i64 0,.string ⟨#[]⟩,.int .i64 0] 47)=w0:=⟨_,rfl⟩;have lo:Below w.heap.size w w0:=by rw[<-o8];exact(Below.refl _ _).alloc (jC _) _
 have yj:w0.heap.size=w.heap.size+1:=by rw[<-o8];simp
 have Rt:w0.heap[w.heap.size]?=some (.cells #[.int .i64 0,.int .i64 0,.string ⟨#[]⟩,.int .i64 0] 47 (0,0)):=by rw[<-o8];exact jD
 have K:=xv text w0 h (E.on lo);go_enter Tryz.func31,Tryz.ntmps31
 go_upto_region 1 with fail
 try rw[o8]
 clear o8;have hR:∀W,Below w0.heap.size w0 W->W.heap[w.heap.size]?=some (.cells #[.int .i64 0,.int .i64 0,.string ⟨#[]⟩,.int .i64 0] 47 (0,0)):=fun W hW=>by rw[hW.block _ (by omega)];exact Rt
 have HR:Hid (∀W,Below w0.heap.size w0 W->W.heap[w.heap.size]?=some (.cells #[.int .i64 0,.int .i64 0,.string ⟨#[]⟩,.int .i64 0] 47 (0,0))):=hR;clear hR Rt;go_upto_region 2 with(go_at_call 48;refine K.mono ?_;rintro e w1 ⟨aG,E9⟩;have xI:Hid (Below w0.heap.size w0 w1):=aG;obtain⟨-,v,c,k,rfl,Iu⟩:=vy ⟨aG,E9⟩;have HP:Hid _:=Iu;clear E9 aG Iu)
 rcases HP.out with⟨hc,Ip⟩|⟨rfl,rfl,q,a,z,rfl,gv,hG⟩
 ·have cb:(c==0)=false:=by rw[jZ];exact hc
  have HC:Hid (¬c=0/\∃c' k':Nat,1<=c'/\az text true=(none,c',k')/\c=c'/\k=k'):=⟨hc,Ip⟩;clear hc Ip HP;have lh:=HR.out w1 xI.out;obtain⟨d0,d1,d2,d3,f0,f1,f2,f3⟩:=dz lh;obtain⟨e4,pH⟩:=fe lh (.int .i64 0) (.int .i64 0) (.string ⟨#[]⟩) (.int .i64 0);go_wp2
  refine bodyPost_ret (dK Tryz.results31 _ _ _ w.heap.size [.int .i64 0,.int .i64 0,.string ⟨#[]⟩,.int .i64 0] _ rfl (fun j u hu=>by rw[Nat.zero_add,cell_of_heap e4];simpa using hu) Tryz.underlying47 rfl cd) rfl ?_;refine⟨⟨_,_,_,.inl (by obtain⟨c',k',a1,a2,a3,a4⟩:=HC.out.2;exact⟨c',k',a1,a2,a3,a4,rfl⟩),rfl⟩,(lo.trans (xI.out.mono (by omega))).trans pH⟩
 ·clear HP;have iD:=hp.below lo E.size;have Iy:=iD.below xI.out (by have:=E.size;omega);have iG:11<=w1.heap.size:=by have:=E.size;have:=xI.out.size;omega
  have J8:cy w1 vi aO:=iL (iL hf lo (jC _)) xI.out (jC _);obtain⟨ad,cap,rfl,-⟩:=id hf;have KM:=fun W=>zH ad aO.length cap fuel 200000 room W
  have TN:Hid (az text true=(some q,0,0)):=gv;clear gv;by_cases hm:kh aO fuel room
  ·have hd:decide (aO.length<=100/\0<=fuel/\fuel<=200000/\0<=room/\room<=50)=true:=decide_eq_true hm;simp only[hd]at KM;have KR:=Mz TN.out hG (.slice ad aO.length cap) aO J8 lv fuel room hm Iy iG;have HM:Hid (kh aO fuel room):=hm;clear hm hd iD Iy hf J8 lv hG K;go_wp2_with (first
    |(go_at_call 43;refine(KM _).mono ?_;rintro e w2 ⟨rfl,rfl⟩)
    |(go_at_call 49;refine KR.mono ?_;rintro e w3 ⟨⟨bX,rfl,HA⟩,cT⟩;have zf:=HR.out w3 (xI.out.trans (cT.mono xI.out.size));obtain⟨d0,d1,d2,d3,f0,f1,f2,f3⟩:=dz zf;obtain⟨e4,pH⟩:=fe zf (.int .i64 ((bX.1:Nat):Int)) (.int .i64 bX.2.1) (.string (bs bX.2.2.yd.text)) (.int .i64 bX.2.2.yd.live);simp only[Jg]))
   refine bodyPost_ret (dK Tryz.results31 _ _ _ w.heap.size [.int .i64 ((bX.1:Nat):Int),.int .i64 bX.2.1,.string (bs bX.2.2.yd.text),.int .i64 bX.2.2.yd.live] _ rfl (fun j u hu=>by rw[Nat.zero_add,cell_of_heap e4];simpa using hu) Tryz.underlying47 rfl cd) rfl ?_;refine⟨⟨_,_,_,.inr (.inr ⟨HM.out,rfl,rfl,q,bX,TN.out,HA.out,rfl⟩),rfl⟩,((lo.trans (xI.out.mono (by omega))).trans (cT.mono (by have:=xI.out.size;omega))).trans pH⟩
  ·have hd:decide (aO.length<=100/\0<=fuel/\fuel<=200000/\0<=room/\room<=50)=false:=decide_eq_false hm;simp only[hd]at KM;have HM:Hid (¬kh aO fuel room):=hm;clear hm hd iD Iy hf J8 lv hG K;have lh:=HR.out w1 xI.out;obtain⟨d0,d1,d2,d3,f0,f1,f2,f3⟩:=dz lh;obtain⟨e4,pH⟩:=fe lh (.int .i64 0) (.int .i64 0) (.string ⟨#[]⟩) (.int .i64 0);go_wp2_with (go_at_call 43;refine(KM _).mono ?_;rintro e w2 ⟨rfl,rfl⟩)
   refine bodyPost_ret (dK Tryz.results31 _ _ _ w.heap.size [.int .i64 0,.int .i64 0,.string ⟨#[]⟩,.int .i64 0] _ rfl (fun j u hu=>by rw[Nat.zero_add,cell_of_heap e4];simpa using hu) Tryz.underlying47 rfl cd) rfl ?_;refine⟨⟨_,_,_,.inr (.inl ⟨⟨q,TN.out⟩,HM.out,rfl,rfl,rfl⟩),rfl⟩,(lo.trans (xI.out.mono (by omega))).trans pH⟩
end Ex
namespace Bal
open Go Sq Go.Proofs.YtmlgajhhnojdjaaGreatDoor.Own
def ma:B->List B
 |[]=>[[]]
 |c::r=>if c=32 then []::ma r else match ma r with
  |[]=>[[c]]
  |w::ws=>(c::w)::ws
def tell (t:B):JP:=if t=[]then .nil else(ma t).foldl JP.word .nil
theorem CA:∀{a:B},(32:UInt8)∉a->ma a=[a]
 |[],_=>rfl
 |c::r,h=>by
  rw[ma,ja (show¬c=32 from fun e=>h (by rw[e];exact jM ..)),CA (a:=r) (fun hm=>h (jN _ hm))]
theorem Al:∀{a:B} (r:B),(32:UInt8)∉a->ma (a++32::r)=a::ma r
 |[],r,_=>by rw[List.nil_append,ma,jb rfl]
 |c::a,r,h=>by
  rw[jW,ma,ja (show¬c=32 from fun e=>h (by rw[e];exact jM ..)),Al (a:=a) r (fun hm=>h (jN _ hm))]
theorem gL:∀(ws:List B),ws≠[]->(∀b∈ws,(32:UInt8)∉b)->ma (Lib.join ws [32])=ws
 |[],h,_=>absurd rfl h
 |[a],_,h=>by rw[Lib.join_one];exact CA (h a (jM ..))
 |a::b::l,_,h=>by
  have e1:Lib.join (a::b::l) [32]=a++32::Lib.join (b::l) [32]:=by simp[Lib.join,List.intercalate,List.intersperse]
  rw[e1,Al _ (h a (jM ..)),gL (b::l) (by simp) (fun x hx=>h x (jN _ hx))]
theorem yk:∀(ws:List B),ws≠[]->(∀b∈ws,b≠[])->Lib.join ws [32]≠[]
 |[],h,_=>absurd rfl h
 |[a],_,h=>by rw[Lib.join_one];exact h a (jM ..)
 |a::b::l,_,_=>by
  have e1:Lib.join (a::b::l) [32]=a++32::Lib.join (b::l) [32]:=by simp[Lib.join,List.intercalate,List.intersperse]
  rw[e1];simp
theorem Nr (ws:List B)(h:∀b∈ws,b≠[]/\(32:UInt8)∉b):tell (Lib.join ws [32])=qb ws:=by
 by_cases hw:ws=[]
 ·subst hw;simp[tell,qb,Lib.join,List.intercalate]
 ·rw[tell,ja (yk ws hw fun b hb=>(h b hb).1),gL ws hw fun b hb=>(h b hb).2];rfl
theorem eZ.Yv {cs:List Nat}{y:Yd}(h:eZ cs y)(hm:y.made.length<10000000):tell y.text=⟨y.made.map (·.2),y.live,true⟩:=by
 rw[Yd.text,Nr _ h.words,h.told hm]
end Bal
namespace Bal
open Go Go.RowKit Sq Aux PrjJ PrjK PrjL PrjM Go.Proofs.YtmlgajhhnojdjaaGreatDoor.Own
section
variable {z x:Nat} {w w1 w2 w3:World} {s:JP} {vl v':Value}
end
end Bal
namespace Bal
open Go Go.RowKit Sq Aux PrjJ PrjK PrjL PrjM Go.Proofs.YtmlgajhhnojdjaaGreatDoor.Own RefE
end Bal
namespace MadM
open Go Sq MadA
structure MM where
 p:Bool
 q:Bool
 a:Bool
 b:Bool
 o:Fin 3
end MadM
namespace MadB
open Go Sq Aux FlwF FlwG FlwH FlwI FlwJ FlwM FlwO FlwP FlwQ FlwS FlwX FlwY MadA MadM
def nx (k:Fin 5):Fin 5:=match k with|0=>1|1=>2|2=>3|3=>0|4=>1
theorem zV (q:QP):∀(ls:List ab) (s:List Nat),(∀l∈ls,l.next=[])->fT q ls s=[]
 |[],_,_=>rfl
 |l::ls,s,h=>by
  rw[fT,h l (jM ..)];exact zV q ls _ fun x hx=>h x (jN _ hx)
theorem MR {q:QP}{E:List (List Nat)}{O:Nat->Bool}{ls:List ab}(hq:q.blocks=[ls])(hn:∀l∈ls,l.next=[])(h:D7 q E O):aQ (cC q E) q.blocks.length 0=dA q ls aT:=by
 have hl:q.blocks.length=1:=by rw[hq];rfl
 have hb:q.blocks.getD 0 []=ls:=by rw[hq];rfl
 have hU:oe q (fun _=>aT):=⟨fun _ _=>oM,zw _,fun b WD _ x hx=>by
  have:b=0:=by omega
  subst this;rw[hb,zV q ls _ hn]at hx;cases hx⟩
 have h1:=h.inv.least _ hU 0 (by omega);have h2:=h.inv.start;have hs:=h.inv.ok.at (i:=0) (by rw[h.inv.len];omega);have he:E.getD 0 []=aT:=by
  refine JZ hs.len (by decide) fun k hk=> ?_
  have a1:=h1 k hk;have a2:=h2 k hk;unfold mC at a1 a2;rw[Nat.or_comm,a2]at a1;exact a1
 rw[hl];show(cC q E 0).or none=_
 unfold cC;rw[he,ja Jq,hb,Option.or_none]
end MadB
namespace MadC
open Go Go.RowKit Sq Aux PrjJ PrjK MadA MadM
section
variable {w w':World} {a:Nat} {T:ByteArray} {n:Nat} {m:MM}
def s5 (c:Int)(n:Nat):Nat:=((if c<0 then-(c+1)else c)%n).toNat
theorem P8 (c:Int){n:Nat}(hn:0<n):s5 c n<n:=by
 unfold s5;have h1:=Int.emod_nonneg (if c<0 then-(c+1)else c) (b:=(n:Int)) (by omega);have h2:=Int.emod_lt_of_pos (if c<0 then-(c+1)else c) (b:=(n:Int)) (by omega);omega
end
theorem P9 (c:Int)(n:Nat)(w:World)(hc: -9223372036854775808<=c/\c<=9223372036854775807)(hn:0<n/\n<=10000000):Calls Tryz.prog 16 #[.int .i64 c,.int .i64 n] w fun e w'=>e=.returned (.int .i64 (s5 c n:Nat))/\w'=w:=by
 have hz:((n:Int)==0)=false:=by rw[jZ];omega
 by_cases h:c<0
 ·go_enter Tryz.func16,Tryz.ntmps16
  go_wp2
  go_ret
  refine⟨?_,rfl⟩;have e: -((c+1).tmod (n:Int))=((s5 c n:Nat):Int):=by
   unfold s5;rw[jb h,<-Int.neg_tmod,Int.tmod_eq_emod_of_nonneg (by omega),Int.toNat_of_nonneg (Int.emod_nonneg _ (by omega))]
  show Ending.returned (Value.int .i64 (-((c+1).tmod (n:Int))))=_
  rw[e]
 ·go_enter Tryz.func16,Tryz.ntmps16
  go_wp2
  go_ret
  refine⟨?_,rfl⟩;have e:c%(n:Int)=((s5 c n:Nat):Int):=by
   unfold s5;rw[ja (by omega),Int.toNat_of_nonneg (Int.emod_nonneg _ (by omega))]
  show Ending.returned (Value.int .i64 (c%(n:Int)))=_
  rw[e]
section
variable {w:World} {a:Nat} {T:ByteArray} {n:Nat} {m:MM}
end
end MadC
namespace MadD
theorem W8:True:=trivial
end MadD
namespace MadE
open Go Go.RowKit Sq Aux PrjJ PrjK FlwI FlwP FlwQ FlwY FlwZ FlwZa MadA MadM MadB MadC MadD
def MQ:QP:=⟨[([110],0),([112],1)],[[⟨3,2,[(0,0)],5,0,[]⟩,⟨4,9,[(1,0),(0,0)],0,0,[]⟩,⟨5,10,[(0,0),(1,0)],0,0,[]⟩,⟨6,22,[(0,0)],0,0,[]⟩]]⟩
set_option maxRecDepth 100000 in
theorem F0:az sU false=(some MQ,0,0):=by rfl
theorem JW {c k:Int}(ha:iJ sU c k):c=0/\k=0:=by
 have hr:=F0;obtain⟨-,-,p,hp,-⟩:=gq hr;rcases ha with⟨c',k',-,h1,-⟩|⟨p',q,E,-,h2,hD,h3⟩
 ·rw[hp]at h1;cases h1
 ·rw[hr]at h2;simp only[Prod.mk.injEq,Option.some.injEq,and_true]at h2;subst h2;have h4:=MR (q:=MQ) rfl (by decide) hD.inv;have h5:dA MQ _ aT=none:=(by decide:dA MQ [⟨3,2,[(0,0)],5,0,[]⟩,⟨4,9,[(1,0),(0,0)],0,0,[]⟩,⟨5,10,[(0,0),(1,0)],0,0,[]⟩,⟨6,22,[(0,0)],0,0,[]⟩] aT=none);have h6:=h4.trans h5;rcases h3 with⟨n,h7,-⟩|⟨-,rfl,rfl⟩
  ·rw[h6]at h7;cases h7
  ·exact⟨rfl,rfl⟩
end MadE
namespace RunB
open Go Go.RowKit Sq Aux Go.Proofs.YtmlgajhhnojdjaaGreatDoor.Own RunA PrjG PrjJ PrjK PrjM PrjS FlwZ FlwZa MadE
def Jc:Go.Proofs.YtmlgajhhnojdjaaGreatDoor.Own.Own:=⟨⟨[(5,false)],0,[43::Lib.itoa 1,60::Lib.itoa 1,45::Lib.itoa 1]⟩,[],5::List.replicate 11 0,List.replicate 24 0⟩
theorem Sv:df MQ 1 9 (MQ.blocks.getD 0 []) (Own.start [])=some (1,5,Jc):=by rfl
theorem Pu:Lib.itoa 1=[49]:=by simp[Lib.itoa,Lib.decDigits]
def zT:Value:=.agg #[.int .i64 1,.int .i64 5,.string ⟨#[43,49,32,60,49,32,45,49]⟩,.int .i64 0]
theorem Su:Gl (1,5,Jc)=zT:=by
 have e:Jc.yd.text=[43,49,32,60,49,32,45,49]:=by
  show Lib.join [43::Lib.itoa 1,60::Lib.itoa 1,45::Lib.itoa 1] [32]=_
  rw[Pu];rfl
 unfold Gl zT;simp only[e];rfl
theorem UX {v:Value}{c k:Int}(h:Bw sU [] 9 1 v c k):v=zT/\c=0/\k=0:=by
 have hm:l7 [] 9 1:=by unfold l7;simp
 rcases h with⟨h1,h2,-⟩|⟨-,h2,-⟩|⟨-,rfl,rfl,q,bX,hg,hr,rfl⟩
 ·exact absurd (JW h1).1 h2
 ·exact absurd hm h2
 ·have e:=hg.read.symm.trans F0;simp only[Prod.mk.injEq,Option.some.injEq,and_true]at e;subst e;have e2:=hr.symm.trans Sv;cases e2
  exact⟨Su,rfl,rfl⟩
theorem On (w:World):cy w (.slice none 0 0) []:=⟨none,0,rfl,jC _,jQ _,fun _j hj=>absurd hj (Nat.not_lt_zero _)⟩
set_option maxRecDepth 20000 in
theorem Lf (w:World)(E:Env w)(hp:Pow w):Calls Tryz.prog 25 #[] w fun e w'=>e=.returned (.bool true)/\Below w.heap.size w w':=by
 have KC:Calls Tryz.prog 21 #[.string ⟨#[108,101,116,32,110,32,105,110,116,10,108,101,116,32,112,32,98,111,120,10,98,108,111,99,107,10,115,101,116,32,110,32,53,10,110,101,119,32,112,32,110,10,108,111,97,100,32,110,32,112,10,101,110,100,32,110]⟩] w _:=(Bt sU w (by decide) E).mono (R':=fun e w'=>e=.returned (.tuple #[.int .i64 0,.int .i64 0])/\Below w.heap.size w w') fun e w' ⟨⟨c,k,ha,he⟩,hb⟩=>by
  obtain⟨rfl,rfl⟩:=JW ha.out;exact⟨he,hb⟩
 have KR:∀w',Env w'->Pow w'->Calls Tryz.prog 23 #[.string ⟨#[108,101,116,32,110,32,105,110,116,10,108,101,116,32,112,32,98,111,120,10,98,108,111,99,107,10,115,101,116,32,110,32,53,10,110,101,119,32,112,32,110,10,108,111,97,100,32,110,32,112,10,101,110,100,32,110]⟩,.slice none 0 0,.int .i64 9,.int .i64 1] w' _:=fun w' E' vZ=>
  (Ea sU (.slice none 0 0) [] 9 1 w' (On w') (fun n hn=>by cases hn) (by decide) E' vZ).mono (R':=fun e w''=>e=.returned (.tuple #[zT,.int .i64 0,.int .i64 0])/\Below w'.heap.size w' w'') fun e w'' ⟨⟨v,c,k,ha,he⟩,hb⟩=>by
  obtain⟨rfl,rfl,rfl⟩:=UX ha.out;exact⟨he,hb⟩
 go_enter Tryz.func25,Tryz.ntmps25
 go_wp2_with (first
  |(go_at_call 21;refine KC.mono ?_;rintro e w1 ⟨rfl,aG⟩;have E1:=E.on aG;have Di:=hp.below aG E.size)
  |(go_at_call 23;refine(KR _ E1 Di).mono ?_;rintro e w2 ⟨rfl,bH⟩;simp only[zT]))
 go_ret
 exact⟨rfl,aG.trans ((bH.alloc bH.size _).mono aG.size)⟩
set_option maxRecDepth 20000 in
theorem Qk (w:World)(vi:Value)(aO:List Int)(hf:cy w vi aO):Calls Tryz.prog 26 #[vi] w fun e w'=>(∃v,e=.returned v/\cy w v (aO.take 100))/\w'=w:=by
 obtain⟨ad,c,rfl,h1,h2,h3⟩:=id hf;have To:(maxLen:Int)<=9223372036854775807:=by decide
 by_cases hl:aO.length<=100
 ·have HF:Hid (cy w (.slice ad aO.length c) (aO.take 100)):=by rw[List.take_of_length_le hl];exact hf
  clear hf h3;go_enter Tryz.func26,Tryz.ntmps26
  go_wp2
  go_ret
  exact⟨⟨_,rfl,HF.out⟩,rfl⟩
 ·have Rn:(aO.take 100).length=100:=by rw[List.length_take];omega
  obtain⟨g,f,rfl,hg,-⟩:=h3 0 (by omega);have HF:Hid (cy w (.slice (some ⟨g,f,none⟩) 100 c) (aO.take 100)):=⟨some ⟨g,f,none⟩,c,by rw[Rn],by rw[Rn];omega,h2,fun j hj=>by
   rw[Rn]at hj;obtain⟨g',f',e,G2,hc⟩:=h3 j (by omega);simp only[Option.some.injEq,Addr.mk.injEq,and_true]at e;obtain⟨rfl,rfl⟩:=e;refine⟨g,f,rfl,hg,?_⟩;rw[hc,jA,jA,List.getElem?_take_of_lt hj]⟩
  clear hf h3 Rn;go_enter Tryz.func26,Tryz.ntmps26
  go_wp2
  go_ret
  exact⟨⟨_,rfl,HF.out⟩,rfl⟩
set_option maxRecDepth 20000 in
theorem Jr (a b:B)(w:World)(h:a<+:b)(hl:b.length<=1099511627776):Calls Tryz.prog 27 #[.string (bs b),.string (bs a)] w fun e w'=>e=.returned (.bool true)/\w'=w:=by
 have hle:=h.length_le;have e1:(bs b).extract 0 (bs a).size=bs a:=by
  rw[extract_eq,bP,fI,Nat.sub_zero,List.drop_zero,<-List.prefix_iff_eq_take.1 h]
 have lj:(bs a).size<=(bs b).size:=by rw[fI,fI];exact hle
 have hsb:(bs b).size<=1099511627776:=by rw[fI];exact hl
 generalize bs a=x at*;generalize bs b=y at*;go_enter Tryz.func27,Tryz.ntmps27
 go_wp2
 go_ret
 exact⟨rfl,rfl⟩
end RunB
namespace RunB
open Go Go.RowKit Sq Aux Go.Proofs.YtmlgajhhnojdjaaGreatDoor.Own RunA PrjG PrjJ PrjK PrjM PrjS FlwZ FlwZa MadC MadE
theorem Bw.form {text:B}{aO:List Int}{fuel room:Int}{v:Value}{c k:Int}(h:Bw text aO fuel room v c k):∃(o x:Int) (t:B) (l:Int),v=.agg #[.int .i64 o,.int .i64 x,.string (bs t),.int .i64 l]:=by
 rcases h with⟨-,-,rfl⟩|⟨-,-,rfl,-⟩|⟨-,-,-,q,bX,-,-,rfl⟩
 ·exact⟨0,0,[],0,rfl⟩
 ·exact⟨0,0,[],0,rfl⟩
 ·exact⟨_,_,_,_,rfl⟩
theorem Lc (text:B)(vi:Value)(aO:List Int)(fuel room:Int)(w:World)(hf:cy w vi aO)(lv:∀n∈aO,bC n)(h:text.length<=1048576)(E:Env w)(hp:Pow w):
  Calls Tryz.prog 23 #[.string (bs text),vi,.int .i64 fuel,.int .i64 room] w fun e w'=>(∃(o x:Int) (t:B) (l c k:Int),Hid (Bw text aO fuel room (.agg #[.int .i64 o,.int .i64 x,.string (bs t),.int .i64 l]) c k)/\e=.returned (.tuple #[.agg #[.int .i64 o,.int .i64 x,.string (bs t),.int .i64 l],.int .i64 c,.int .i64 k]))/\Below w.heap.size w w':=by
 refine(Ea text vi aO fuel room w hf lv h E hp).mono ?_;rintro e w' ⟨⟨v,c,k,hr,rfl⟩,hb⟩;obtain⟨o,x,t,l,rfl⟩:=hr.out.form;exact⟨⟨o,x,t,l,c,k,hr,rfl⟩,hb⟩
theorem Pv {w4 w6:World}{x:Obj}(hb:Below (w4.alloc x).heap.size (w4.alloc x) w6):w6.heap[w4.heap.size]?=some x/\w4.heap.size<w6.heap.size:=by
 have h:(w4.alloc x).heap[w4.heap.size]?=some x:=jD;have hs:=hb.size;have e:(w4.alloc x).heap.size=w4.heap.size+1:=by simp
 exact⟨by rw[hb.block _ (by omega)];exact h,by omega⟩
theorem Px {w4 w6:World}{x y:Obj}(hb:Below (w4.alloc x).heap.size (w4.alloc x) w6):(w6.alloc y).heap[w4.heap.size]?=some x:=by
 have h:(w4.alloc x).heap[w4.heap.size]?=some x:=jD;have hs:=hb.size;have e:(w4.alloc x).heap.size=w4.heap.size+1:=by simp
 show(w6.heap.push y)[w4.heap.size]?=_
 rw[Array.getElem?_push_lt (by omega)];rw[<-h,<-hb.block _ (by omega),Array.getElem?_eq_getElem (by omega)]
end RunB
namespace Ex
open Go Go.RowKit Sq Aux Go.Proofs.YtmlgajhhnojdjaaGreatDoor.Own RunA RunB RefM PrjG PrjJ PrjK PrjM PrjS PrjX FlwZ MadC Bal
theorem s9 {q:QP}(bR:q.locals.length<=12)(room:Int)(pK:∀j,∀l∈q.blocks.getD j [],GU q l):
  ∀(f:Nat) (ls:List ab) (b:Br) (t:Nat) (bX:Nat×Int×Br),(∀l∈ls,GU q l)->od q b->b.In t->t+f<=999999->da q room f ls b=some bX->bX.2.2.In (t+f)
 |f,[],b,t,bX,_,_,_,_,h=>by cases f<;>simp[da]at h
 |0,l::ls,b,t,bX,_,_,hI,_,h=>by rw[da]at h;cases h;exact hI
 |f+1,l::ls,b,t,bX,hl,hH,hI,ht,h=>by
  have jy:=hl l (jM ..);have RN:∀m∈ls,GU q m:=fun m hm=>hl m (jN _ hm)
  have o1:=jy.ok.op;have o2:=jy.ok.Kp;have o3:=jy.has;rw[da]at h;cases hb:b.breaks q l
  ·rw[hb,ja (by decide)]at h;by_cases h6:l.op=6
   ·rw[jb h6]at h;split at h
    ·cases h;exact hI.mono (by omega)
    ·exact(s9 bR room pK f ls _ t bX RN (tI bR jy h6 hH) (hI.calc q l) (by omega) h).mono (by omega)
   ·rw[ja h6]at h;by_cases h9:l.op=9
    ·rw[jb h9]at h;split at h
     ·cases h;exact hI.mono (by omega)
     ·exact(s9 bR room pK f ls _ (t+1) bX RN (zM bR jy h9 _ hH) (hI.new (by omega) q _ (hI.val q _)) (by omega) h).mono (by omega)
    ·rw[ja h9]at h;by_cases hT:l.op=18\/l.op=19\/l.op=20\/l.op=21
     ·rw[jb hT]at h;split at h
      ·exact(s9 bR room pK f _ b t bX (pK _) hH hI (by omega) h).mono (by omega)
      ·cases h
     ·rw[ja hT]at h;by_cases AW:l.op=22
      ·rw[jb AW]at h;cases h;exact hI.mono (by omega)
      ·rw[ja AW]at h;obtain⟨hd,Rq⟩:=vj bR jy (by omega) hb hH;exact(s9 bR room pK f ls _ (t+1) bX RN Rq (hI.cz (by omega) q hd (by have:=jy.ok.number;unfold bC;omega)) (by omega) h).mono (by omega)
  ·rw[hb,jb rfl]at h;cases h;exact hI.mono (by omega)
theorem Hx {text:B}{aO:List Int}{fuel room:Int}{v:Value}{c k:Int}(hi:∀x∈aO,bC x)(h:tD text aO fuel room v c k)(hm:kh aO fuel room):(c=((az text true).2.1:Nat)/\k=((az text true).2.2:Nat))/\((¬c=0/\v=tv)\/
  (c=0/\∃(o x:Int) (t:B) (l:Int) (L:List Bool),v=.agg #[.int .i64 o,.int .i64 x,.string (bs t),.int .i64 l]/\tell t=⟨L,l,true⟩/\t.length<=6200000/\¬o=0)):=by
 rcases h with⟨c',k',h1,h2,rfl,rfl,rfl⟩|⟨-,h1,-⟩|⟨-,rfl,rfl,q,bX,h2,hr,rfl⟩
 ·rw[h2];exact⟨⟨rfl,rfl⟩,.inl ⟨by omega,rfl⟩⟩
 ·exact absurd hm h1
 ·refine⟨by rw[h2];exact⟨rfl,rfl⟩,.inr ⟨rfl,?_⟩⟩;obtain⟨-,a2,a3,-,-⟩:=hm;obtain⟨ans',Y1,hH,ho,OZ⟩:=Ku h2 aO room fuel.toNat;rw[hr]at Y1;cases Y1
  obtain⟨-,-,p,hp,hB⟩:=gq h2;have hS:=vw h2;have pK:∀j,∀l∈q.blocks.getD j [],GU q l:=fun j l hl=>Jh (hB.Kt.lines _ (dn hl) l hl) (hS.lines j l hl)
  have hI:=s9 hB.k8 room pK fuel.toNat _ _ 0 bX (pK 0) (rW q aO) (Br.In.start hi) (by omega) hr;obtain⟨cs,pJ⟩:=hH.Lg;refine⟨(bX.1:Nat),bX.2.1,bX.2.2.yd.text,bX.2.2.yd.live,_,rfl,pJ.Yv (by omega),?_,by omega⟩;have h1:=zq _ hI.words;have h2:=hI.trace;unfold Yd.text;omega
theorem tD.form {text:B}{aO:List Int}{fuel room:Int}{v:Value}{c k:Int}(h:tD text aO fuel room v c k):∃(o x:Int) (t:B) (l:Int),v=.agg #[.int .i64 o,.int .i64 x,.string (bs t),.int .i64 l]:=by
 rcases h with⟨-,-,-,-,-,-,rfl⟩|⟨-,-,rfl,-⟩|⟨-,-,-,q,bX,-,-,rfl⟩
 ·exact⟨0,0,[],0,rfl⟩
 ·exact⟨0,0,[],0,rfl⟩
 ·exact⟨_,_,_,_,rfl⟩
end Ex
end Go.Proofs.YtmlgajhhnojdjaaGreatDoor

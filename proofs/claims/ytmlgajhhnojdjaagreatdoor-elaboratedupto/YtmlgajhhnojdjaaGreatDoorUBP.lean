import Derived.Test.YtmlgajhhnojdjaaGreatDoorUBO
import Derived.Test.YtmlgajhhnojdjaaGreatDoorUBM
import Derived.Test.YtmlgajhhnojdjaaGreatDoorUBN
set_option maxHeartbeats 8000000
namespace Go.Proofs.YtmlgajhhnojdjaaGreatDoor
namespace RunB
open Go Go.RowKit Sq Aux Go.Proofs.YtmlgajhhnojdjaaGreatDoor.Own RunA RefM PrjG PrjJ PrjK PrjM PrjS PrjW FlwA FlwP FlwQ FlwV FlwY FlwZ FlwZa
def Bw (text:B)(aO:List Int)(fuel room:Int)(v:Value)(c k:Int):Prop:=
 (iJ text c k/\c≠0/\v=tv)\/(iJ text 0 0/\¬l7 aO fuel room/\v=tv/\c=6/\k=0)\/
  (l7 aO fuel room/\c=0/\k=0/\∃q bX,Good text q/\df q room fuel.toNat (q.blocks.getD 0 []) (Own.start aO)=some bX/\v=Gl bX)
set_option maxRecDepth 20000 in
theorem zH (ad:Option Addr)(n c:Nat)(f m r:Int)(w:World):Calls Tryz.prog 43 #[.slice ad n c,.int .i64 f,.int .i64 m,.int .i64 r] w fun e w'=>e=.returned (.bool (decide (n<=100/\0<=f/\f<=m/\0<=r/\r<=50)))/\w'=w:=by
 go_enter Tryz.func43,Tryz.ntmps43
 by_cases h1:n<=100<;>by_cases h2:0<=f<;>by_cases h3:f<=m<;>by_cases h4:0<=r<;>by_cases h5:r<=50
 all_goals
  go_wp2<;>(go_ret;simp[h1,h2,h3,h4,h5])
theorem U4 {q:QP}{l:ab}(hl:eU q l):Zq q l:=⟨pX hl,fun h=>by
 rcases h with e|e
 ·exact p6 hl e
 ·obtain⟨e0,e1,-⟩:=p8 hl e;rw[e0,e1];rfl⟩
theorem PS {text:B}{q:QP}(hg:Good text q){z a:Nat}{w:World}(hG:AR z a w q)(vi:Value)(aO:List Int)(hf:cy w vi aO)(lv:∀n∈aO,bC n)(fuel room:Int)(hm:l7 aO fuel room)(iD:Pow w)(iG:11<=w.heap.size):
  Calls Tryz.prog 44 #[.pointer (some ⟨a,0,none⟩),vi,.int .i64 fuel,.int .i64 room] w fun e w'=>(∃bX,e=.returned (Gl bX)/\Hid (df q room fuel.toNat (q.blocks.getD 0 []) (Own.start aO)=some bX))/\Below w.heap.size w w':=by
 obtain⟨-,h0,h1,h2,h3⟩:=hm;obtain⟨f,rfl⟩:∃f:Nat,fuel=f:=⟨fuel.toNat,by omega⟩;obtain⟨r,rfl⟩:∃r:Nat,room=r:=⟨room.toNat,by omega⟩;obtain⟨p,E,hp,hD,hn⟩:=hg.done;have bU:=hD.both.k8;obtain⟨bX,ha,-⟩:=hg.run (ko bU) (CB q aO) (r:Nat) f;obtain⟨vl,vb,us,vss,hP⟩:=hG.at_;have hS:=oI hg.read;have hq:=hD.both.Kt;refine(Q8 hP vi aO hf lv f r (by omega) (by omega) hD.pos hG.blocks bU hq hG.lines (fun j l hl=>U4 ⟨hq.lines _ (dn hl) l hl,hS.has _ l hl,hS.fits _ l hl⟩) iD iG ha).mono ?_;rintro e w' ⟨rfl,hb⟩;exact⟨⟨bX,rfl,ha⟩,hb⟩
theorem dz {w1:World}{R:Nat}{u0 u1 u2 u3:Value}(hR:w1.heap[R]?=some (.cells #[u0,u1,u2,u3] 47 (0,0))):w1.cell? ⟨R,0,none⟩=some u0/\w1.cell? ⟨R,1,none⟩=some u1/\w1.cell? ⟨R,2,none⟩=some u2/\w1.cell? ⟨R,3,none⟩=some u3/\
  w1.frozen? ⟨R,0,none⟩=false/\w1.frozen? ⟨R,1,none⟩=false/\w1.frozen? ⟨R,2,none⟩=false/\w1.frozen? ⟨R,3,none⟩=false:=
 ⟨by rw[cell_of_heap hR];rfl,by rw[cell_of_heap hR];rfl,by rw[cell_of_heap hR];rfl,by rw[cell_of_heap hR];rfl,frozen_of_heap hR 0,frozen_of_heap hR 1,frozen_of_heap hR 2,frozen_of_heap hR 3⟩
theorem iL {w w1:World}{v:Value}{l:List Int}(h:cy w v l){b:Nat}(hb:Below b w w1)(hs:w.heap.size<=b):cy w1 v l:=by
 obtain⟨ad,c,rfl,h1,h2,h3⟩:=h;refine⟨ad,c,rfl,h1,h2,fun j hj=> ?_⟩;obtain⟨g,f,e,hg,hc⟩:=h3 j hj;exact⟨g,f,e,by have:=hb.size;omega,(hb.cell (p:=⟨g,f+j,none⟩) (jK hg hs)).trans hc⟩
theorem kk.Ic {text:B}{w w':World}{e:Ending}(h:kk text w e w'):Below w.heap.size w w'/\∃v c k,e=.returned (.tuple #[v,.int .i64 c,.int .i64 k])/\((¬c=0/\iJ text c k)\/(c=0/\k=0/\∃q a z,v=.pointer (some ⟨a,0,none⟩)/\Good text q/\AR z a w' q)):=by
 obtain⟨hb,h|⟨p,q,E,h1,hq,h2,⟨n,h3,rfl⟩|⟨h3,a,z,rfl,-,hG⟩⟩⟩:=h
 ·obtain⟨c,k,h0,h1,rfl⟩:=h;exact⟨hb,_,_,_,rfl,.inl ⟨by omega,.inl ⟨c,k,h0,h1,rfl,rfl⟩⟩⟩
 ·exact⟨hb,_,_,_,rfl,.inl ⟨by decide,.inr ⟨p,q,E,h1,hq,h2,.inl ⟨n,h3,rfl,rfl⟩⟩⟩⟩
 ·exact⟨hb,_,_,_,rfl,.inr ⟨rfl,rfl,q,a,z,rfl,⟨hq,p,E,h1,h2,h3⟩,hG⟩⟩
theorem dK {fn:Func}{p u v:Tmp}{ty:TypeId}(h:fn.results= #[.cell p ty,.tmp u,.tmp v])(tmps:Array Value)(P:Program)(w:World)(b:Nat)(cs:List Value)(d:TypeDesc)(hp:tmps.getD p undef=.pointer (some ⟨b,0,none⟩))
  (hc:w.rangeAt b 0 cs) (hu:P.underlying ty=some d) (hd:d.isRow=true) (hi:(P.info? ty).map (·.size)=some cs.length):(results fn tmps).run P w=.ok (.tuple #[.agg cs.toArray,tmps.getD u undef,tmps.getD v undef]) w:=by
 have:=run_loadVar_mid (P:=P) w b 0 ty cs d hc hu hd hi;rw[Array.getD_eq_getD_getElem?]at hp;unfold results;simp[h,hp,asAddr,this]
set_option maxRecDepth 20000 in
theorem Ea (text:B)(vi:Value)(aO:List Int)(fuel room:Int)(w:World)(hf:cy w vi aO)(lv:∀n∈aO,bC n)(h:text.length<=1048576)(E:Env w)(hp:Pow w):
  Calls Tryz.prog 23 #[.string (bs text),vi,.int .i64 fuel,.int .i64 room] w fun e w'=>(∃v c k,Hid (Bw text aO fuel room v c k)/\e=.returned (.tuple #[v,.int .i64 c,.int .i64 k]))/\Below w.heap.size w w':=by
 obtain⟨w0,o8⟩:∃w0,w.alloc (.cells #[.int .i64 0,.int .i64 0,.string ⟨#[]⟩,.int .i64 0] 47)=w0:=⟨_,rfl⟩;have lo:Below w.heap.size w w0:=by rw[<-o8];exact(Below.refl _ _).alloc (jC _) _
 have yj:w0.heap.size=w.heap.size+1:=by rw[<-o8];simp
 have Rt:w0.heap[w.heap.size]?=some (.cells #[.int .i64 0,.int .i64 0,.string ⟨#[]⟩,.int .i64 0] 47 (0,0)):=by rw[<-o8];exact jD
 have K:=oF text w0 h (E.on lo);go_enter Tryz.func23,Tryz.ntmps23
 go_upto_region 1 with fail
 try rw[o8]
 clear o8;have hR:∀W,Below w0.heap.size w0 W->W.heap[w.heap.size]?=some (.cells #[.int .i64 0,.int .i64 0,.string ⟨#[]⟩,.int .i64 0] 47 (0,0)):=fun W hW=>by rw[hW.block _ (by omega)];exact Rt
 have HR:Hid (∀W,Below w0.heap.size w0 W->W.heap[w.heap.size]?=some (.cells #[.int .i64 0,.int .i64 0,.string ⟨#[]⟩,.int .i64 0] 47 (0,0))):=hR;clear hR Rt;go_upto_region 2 with(go_at_call 38;refine K.mono ?_;rintro e w1 ⟨aG,E9⟩;have xI:Hid (Below w0.heap.size w0 w1):=aG;obtain⟨-,v,c,k,rfl,Iu⟩:=kk.Ic ⟨aG,E9⟩;have HP:Hid _:=Iu;clear E9 aG Iu)
 rcases HP.out with⟨hc,Ip⟩|⟨rfl,rfl,q,a,z,rfl,gv,hG⟩
 ·have cb:(c==0)=false:=by rw[jZ];exact hc
  have HC:Hid (¬c=0/\iJ text c k):=⟨hc,Ip⟩;clear hc Ip HP;have lh:=HR.out w1 xI.out;obtain⟨d0,d1,d2,d3,f0,f1,f2,f3⟩:=dz lh;obtain⟨e4,pH⟩:=fe lh (.int .i64 0) (.int .i64 0) (.string ⟨#[]⟩) (.int .i64 0);go_wp2
  refine bodyPost_ret (dK Tryz.results23 _ _ _ w.heap.size [.int .i64 0,.int .i64 0,.string ⟨#[]⟩,.int .i64 0] _ rfl (fun j u hu=>by rw[Nat.zero_add,cell_of_heap e4];simpa using hu) Tryz.underlying47 rfl cd) rfl ?_;refine⟨⟨_,_,_,.inl ⟨HC.out.2,HC.out.1,rfl⟩,rfl⟩,(lo.trans (xI.out.mono (by omega))).trans pH⟩
 ·clear HP;have iD:=hp.below lo E.size;have Iy:=iD.below xI.out (by have:=E.size;omega);have iG:11<=w1.heap.size:=by have:=E.size;have:=xI.out.size;omega
  have J8:cy w1 vi aO:=iL (iL hf lo (jC _)) xI.out (jC _);obtain⟨ad,cap,rfl,-⟩:=id hf;have KM:=fun W=>zH ad aO.length cap fuel 1000 room W
  have TN:Hid (Good text q):=gv;clear gv;by_cases hm:l7 aO fuel room
  ·have hd:decide (aO.length<=100/\0<=fuel/\fuel<=1000/\0<=room/\room<=50)=true:=decide_eq_true hm;simp only[hd]at KM;have KR:=PS TN.out hG (.slice ad aO.length cap) aO J8 lv fuel room hm Iy iG;have HM:Hid (l7 aO fuel room):=hm;clear hm hd iD Iy hf J8 lv hG K;go_wp2_with (first
    |(go_at_call 43;refine(KM _).mono ?_;rintro e w2 ⟨rfl,rfl⟩)
    |(go_at_call 44;refine KR.mono ?_;rintro e w3 ⟨⟨bX,rfl,HA⟩,cT⟩;have zf:=HR.out w3 (xI.out.trans (cT.mono xI.out.size));obtain⟨d0,d1,d2,d3,f0,f1,f2,f3⟩:=dz zf;obtain⟨e4,pH⟩:=fe zf (.int .i64 ((bX.1:Nat):Int)) (.int .i64 bX.2.1) (.string (bs bX.2.2.yd.text)) (.int .i64 bX.2.2.yd.live);simp only[Gl]))
   refine bodyPost_ret (dK Tryz.results23 _ _ _ w.heap.size [.int .i64 ((bX.1:Nat):Int),.int .i64 bX.2.1,.string (bs bX.2.2.yd.text),.int .i64 bX.2.2.yd.live] _ rfl (fun j u hu=>by rw[Nat.zero_add,cell_of_heap e4];simpa using hu) Tryz.underlying47 rfl cd) rfl ?_;refine⟨⟨_,_,_,.inr (.inr ⟨HM.out,rfl,rfl,q,bX,TN.out,HA.out,rfl⟩),rfl⟩,((lo.trans (xI.out.mono (by omega))).trans (cT.mono (by have:=xI.out.size;omega))).trans pH⟩
  ·have hd:decide (aO.length<=100/\0<=fuel/\fuel<=1000/\0<=room/\room<=50)=false:=decide_eq_false hm;simp only[hd]at KM;have HM:Hid (¬l7 aO fuel room):=hm;clear hm hd iD Iy hf J8 lv hG K;have lh:=HR.out w1 xI.out;obtain⟨d0,d1,d2,d3,f0,f1,f2,f3⟩:=dz lh;obtain⟨e4,pH⟩:=fe lh (.int .i64 0) (.int .i64 0) (.string ⟨#[]⟩) (.int .i64 0);go_wp2_with (go_at_call 43;refine(KM _).mono ?_;rintro e w2 ⟨rfl,rfl⟩)
   refine bodyPost_ret (dK Tryz.results23 _ _ _ w.heap.size [.int .i64 0,.int .i64 0,.string ⟨#[]⟩,.int .i64 0] _ rfl (fun j u hu=>by rw[Nat.zero_add,cell_of_heap e4];simpa using hu) Tryz.underlying47 rfl cd) rfl ?_;refine⟨⟨_,_,_,.inr (.inl ⟨TN.out.chk,HM.out,rfl,rfl,rfl⟩),rfl⟩,(lo.trans (xI.out.mono (by omega))).trans pH⟩
end RunB
namespace Ex
open Go Go.RowKit Sq Aux PrjJ PrjK PrjL PrjM PrjQ PrjS PrjT FlwA FlwB FlwD FlwE FlwM Go.Proofs.YtmlgajhhnojdjaaGreatDoor.Own RunB
attribute [local go_sem ↓] Bo Bn Bq
attribute [local go_sem] qX xd zr sF xe
def Jg (r:Nat×Int×Br):Value:=.agg #[.int .i64 ((r.1:Nat):Int),.int .i64 r.2.1,.string (bs r.2.2.yd.text),.int .i64 r.2.2.yd.live]
theorem Lh {w:World}{a:Nat}{vi:Value}{aO:List Int}(hf:cy w vi aO)(u v:Value):dM w w.heap.size a ((w.alloc (.cells (bF u v).toArray 136)).setCells w.heap.size 0 (bF (.pointer (some ⟨a,0,none⟩)) vi)) (Br.start aO) vi (.slice none 0 0) (.slice none 0 0):=by
 obtain⟨h1,h2⟩:=N8 w u v (.pointer (some ⟨a,0,none⟩)) vi;exact⟨⟨jC _,.inr rfl,h1,World.ownsRow_nil _ _ _ _,World.ownsRow_nil _ _ _ _⟩,h2,by simp[Br.start],by simp[Br.start],hf⟩
section
variable {a:Nat} {w:World} {q:QP}
set_option maxRecDepth 20000 in
theorem NW {z:Nat}{vl vb:Value}{us:List Value}{vss:List (List (Value×Value))}(h:gS z a w q vl vb us vss)(vi:Value)(aO:List Int)(hf:cy w vi aO)(lv:∀n∈aO,bC n)(fuel room:Nat)(hfu:fuel<=200000)
  (lo:0<q.blocks.length) (bU:q.locals.length<=12) (hq:AE q.blocks.length q) (dp:∀j,(q.blocks.getD j []).length<=4000) (hrok:∀j,∀l∈q.blocks.getD j [],GU q l) (iD:Pow w) (iG:11<=w.heap.size)
  {bX:Nat×Int×Br} (Im:da q (room:Nat) fuel (q.blocks.getD 0 []) (Br.start aO)=some bX):
  Calls Tryz.prog 49 #[.pointer (some ⟨a,0,none⟩),vi,.int .i64 (fuel:Nat),.int .i64 (room:Nat)] w fun e w'=>e=.returned (Jg bX)/\Below w.heap.size w w':=by
 obtain⟨w0,o8⟩:∃w0,w.alloc (.cells #[.int .i64 0,.int .i64 0,.string ⟨#[]⟩,.int .i64 0] 47)=w0:=⟨_,rfl⟩;have Da:Below w.heap.size w w0:=by rw[<-o8];exact(Below.refl _ _).alloc (jC _) _
 have yj:w0.heap.size=w.heap.size+1:=by rw[<-o8];simp
 have Rt:w0.heap[w.heap.size]?=some (.cells #[.int .i64 0,.int .i64 0,.string ⟨#[]⟩,.int .i64 0] 47 (0,0)):=by rw[<-o8];exact jD
 have LM:=h.below Da;have Ix:=iD.below Da iG;have NK:cy w0 vi aO:=iL hf Da (jC _);have NH:=Lh (a:=a) NK (.pointer none) (.slice none 0 0);have gy:=DK w0 (.pointer none) (.slice none 0 0);have hH:Hid (da q (room:Nat) fuel (q.blocks.getD 0 []) (Br.start aO)=some bX):=Im;obtain⟨ad,c,rfl,-⟩:=hf;clear Im h iD;rw[yj]at NH gy;go_enter Tryz.func49,Tryz.ntmps49
 go_wp2
 try rw[o8]
 refine xG ?_;intro J hJ;go_upto_region 2 with fail
 clear gy o8 NK;generalize ((w0.alloc (Obj.cells (bF (Value.pointer none) (Value.slice none 0 0)).toArray 136)).setCells (w.heap.size+1) 0 (bF (Value.pointer (some {block:=a,off:=0})) (Value.slice ad aO.length c)))=W0 at*;have C9:=(Br.In.start lv).mono (jQ (200000-fuel));have fy:Hid (∃b vi vm vt,dM w0 (w.heap.size+1) a W0 b vi vm vt/\b.In (200000-fuel)/\od q b/\da q (room:Nat) fuel (q.blocks.getD 0 []) b=some bX):=⟨_,_,_,_,NH,C9,rW q aO,hH.out⟩;clear NH C9 hH;go_wp2
 go_loopg [2,11] (fuel+1) (fun g v2 v11 wr=>∃(f n:Nat),g=f+1/\f<=200000/\v2=.int .i64 f/\v11=.int .i64 n/\n<q.blocks.length/\Hid (∃b vi vm vt,dM w0 (w.heap.size+1) a wr b vi vm vt/\b.In (200000-f)/\od q b/\da q (room:Nat) f (q.blocks.getD n []) b=some bX))
 case atStart=>exact⟨fuel,0,rfl,hfu,rfl,rfl,lo,fy⟩
 case round=>
  obtain⟨f0,n,hg,NK,rfl,rfl,hb,fy⟩:=hrel;obtain⟨gb,cb,adk,ck,rfl,B8,NJ,AX⟩:=Ek LM hb;have WJ:(n:Int)<(q.blocks.length:Nat):=by omega
  have hold:Below w0.heap.size w0 wr:=by obtain⟨b,vi,vm,vt,h1,-⟩:=fy.out;exact h1.aZ
  obtain⟨p0,p1,-,-⟩:=gS.facts (LM.below hold);have aX:=NJ wr hold;have pK:=dp n;have qU:∀l∈q.blocks.getD n [],fY q.locals.length q.blocks.length l:=hq.lines _ (by simp[hb]);have hrk:∀l∈q.blocks.getD n [],GU q l:=hrok n;generalize dj:q.blocks.getD n []=aM at*;clear dj NJ;generalize vss.getD n []=vsj at*;have dB:0<aM.length:=by
   obtain⟨b,vi,vm,vt,-,-,-,h3⟩:=fy.out;cases aM with
   |nil=>cases f0<;>simp[da]at h3
   |cons _ _=>simp
  have HD:Hid (∀k,k<aM.length->aM.drop k=aM.getD k ab.nil::aM.drop (k+1)):=fun k hk=>by rw[jE hk];simp[hk]
  have JL:Hid (∀W W',Below w0.heap.size w0 W->Below W.heap.size W W'->W'.heap[w.heap.size]?=some (.cells #[.int .i64 0,.int .i64 0,.string ⟨#[]⟩,.int .i64 0] 47 (0,0))):=fun W W' h1 h2=>by
   have hs:=h1.size;rw[h2.block _ (by omega),h1.block _ (by omega)];exact Rt
  go_wp2
  go_loopg [2,11,26] (aM.length) (fun g v2 v11 v26 wn=>∃(k f b':Nat),g+k=aM.length/\f+k=f0/\v2=.int .i64 f/\v11=.int .i64 b'/\v26=.int .i64 k/\Hid (∃b vi vm vt,dM w0 (w.heap.size+1) a wn b vi vm vt/\b.In (200000-f)/\od q b/\((k<aM.length/\da q (room:Nat) f (aM.drop k) b=some bX)\/(k=aM.length/\b'<q.blocks.length/\da q (room:Nat) f (q.blocks.getD b' []) b=some bX))))
  case atStart=>
   obtain⟨b,vi,vm,vt,h1,h2,h4,h3⟩:=fy.out;exact⟨0,f0,n,rfl,rfl,rfl,rfl,rfl,b,vi,vm,vt,h1,h2,h4,.inl ⟨dB,h3⟩⟩
  case round=>
   obtain⟨k,f,b',Ca,hfk,rfl,rfl,rfl,fy⟩:=hrel;clear p0 p1 aX hold;by_cases hk:k<aM.length
   ·obtain⟨b,vi,vm,vt,hO,hI,hH,pJ⟩:=fy.out;have HR:Hid (da q (room:Nat) f (aM.getD k ab.nil::aM.drop (k+1)) b=some bX):=by
     rcases pJ with⟨-,h⟩|⟨h,-⟩
     ·rw[HD.out k hk]at h;exact h
     ·omega
    clear pJ fy;obtain⟨gl,apl,cp,an,cn,rfl,-,AH,HL⟩:=Kk AX hk;have mw:aM.getD k ab.nil∈aM:=by simp[hk]
    have hl:=qU _ mw;have hr:=hrk _ mw;have NO:(k:Int)<(aM.length:Nat):=by omega
    generalize aM.getD k ab.nil=l at*;obtain⟨k0,k1,k2,k3,k4,k5⟩:=(HL _ hO.aZ).1;have lW:Below wr.heap.size wr (wr.alloc (.cells #[.int .i64 (l.num:Nat),.int .i64 (l.op:Nat),.slice apl l.places.length cp,.int .i64 l.number,.int .i64 l.flag,.slice an l.next.length cn] 115)):=(Below.refl _ _).alloc (jC _) _;have o7:=hO.below lW;have za:=(HL w0 (Below.refl _ _)).2;have S8:PQ w0 a q _ _:=⟨LM.aM,⟨_,LM.locals⟩⟩;have eD:(wr.alloc (.cells #[.int .i64 (l.num:Nat),.int .i64 (l.op:Nat),.slice apl l.places.length cp,.int .i64 l.number,.int .i64 l.flag,.slice an l.next.length cn] 115)).heap[wr.heap.size]?=some (.cells #[.int .i64 (l.num:Nat),.int .i64 (l.op:Nat),.slice apl l.places.length cp,.int .i64 l.number,.int .i64 l.flag,.slice an l.next.length cn] 115 (0,0)):=jD;clear mw lW;have QF:Hid (∀W W' W'',Below w0.heap.size w0 W->Below W.heap.size W W'->Below w.heap.size W' W''->Below w.heap.size w W''):=fun W W' W'' h1 h2 h3=>by
     have:=h1.size;exact Da.trans (((h1.mono (by omega)).trans (h2.mono (by omega))).trans h3)
    cases f with
    |zero=>
     have HA:Hid (bX=(2,0,b)):=by have:=HR.out;rw[da]at this;exact(Option.some.inj this).symm
     have KR:=fun(W:World) (hW:dM w0 (w.heap.size+1) a W b vi vm vt)=>ff hW.eG 2 0 (hI.ok (by omega))
     go_wp2
     apply wp_goto
     refine hJ _ _ _ _ rfl ?_;go_wp2_with (go_at_call 66;go_fit (KR _ o7);rintro e wz ⟨rfl,vW⟩;have mg:=JL.out _ _ o7.aZ vW;obtain⟨z0,z1,z2,z3,rf0,rf1,rf2,rf3⟩:=dz mg)
     try rw[Exit.noGoto_ret]
     obtain⟨e4,pH⟩:=fe mg (.int .i64 2) (.int .i64 0) (.string (bs b.yd.text)) (.int .i64 b.yd.live);refine bodyPost_ret (bZ Tryz.results49 _ _ _ w.heap.size [.int .i64 2,.int .i64 0,.string (bs b.yd.text),.int .i64 b.yd.live] _ rfl (fun j u hu=>by rw[Nat.zero_add,cell_of_heap e4];simpa using hu) Tryz.underlying47 rfl cd) rfl ?_;exact⟨by rw[HA.out];rfl,QF.out _ _ _ o7.aZ vW pH⟩
    |succ f=>
     have hF0:(((f+1:Nat):Int)==0)=false:=by rw[jZ];omega
     have HN:Hid (∀o',da q (room:Nat) f (aM.drop (k+1)) o'=some bX->k+1<aM.length):=fun o' h=>by
      by_cases bg:k+1<aM.length
      ·exact bg
      ·rw[jT (by omega)]at h;cases f<;>simp[da]at h
     have WE:l.op=11\/l.op=16->(b.cell q (ag l 0)).1=true->1<=b.val q (ag l 0)/\b.val q (ag l 0)<=b.yd.made.length:=fun e hf=>by
      have hlen:0<l.places.length:=by rcases e with e|e<;>(rw[hl.bt,e];decide)
      have k0:=bj hr.fits (j:=0) hlen;have hw:(ah l.op).getD 0 0=112:=by rcases e with e|e<;>(rw[e];rfl)
      rw[hw]at k0;exact hH.fit.val (by have:=(Ex.aV hr hlen).1;omega) (lB k0) (ei k0).1 hf
     have WG:l.op=10->(b.cell q (ag l 1)).1=true->1<=b.val q (ag l 1)/\b.val q (ag l 1)<=b.yd.made.length:=fun e hf=>by
      have hlen:1<l.places.length:=by rw[hl.bt,e];decide
      have k0:=bj hr.fits (j:=1) hlen;have hw:(ah l.op).getD 1 0=112:=by rw[e];rfl
      rw[hw]at k0;exact hH.fit.val (by have:=(Ex.aV hr hlen).1;omega) (lB k0) (ei k0).1 hf
     have KB:=Ho o7 S8 bU za hl (hI.ok (by omega)) hr.has WE WG;clear WE WG;cases mi:b.breaks q l
     ·rw[mi]at KB;have eH:=HR.out;rw[da,ja (by rw[mi];decide)]at eH;have E8:(l.op=2\/l.op=3\/l.op=4\/l.op=5\/l.op=7\/l.op=8\/l.op=10\/l.op=11\/l.op=16\/l.op=12\/l.op=13\/l.op=14\/l.op=17)\/l.op=6\/l.op=9\/(l.op=18\/l.op=19\/l.op=20\/l.op=21)\/l.op=22:=by
       have o1:=hl.op;have o2:=hl.Kp;have o3:=hr.has;omega
      rcases E8 with ak|ak|ak|ak|ak
      ·
       have Ir:=vj bU hr ak mi hH;rw[ja (by omega),ja (by omega),ja (by omega),ja (by omega)]at eH;have xJ:Hid (da q (room:Nat) f (aM.drop (k+1)) (b.cz q l)=some bX):=eH;have xP:=(hI.cz (by omega) q Ir.1 (by have:=hl.number;unfold bC;omega)).mono (show 200000-(f+1)+1<=200000-f by omega);have Rq:=Ir.2;have KD:=fun(W:World) (hW:dM w0 (w.heap.size+1) a W b vi vm vt)=>Hs hW S8 bU za hl Ir.1 (hI.val q) (hI.ok (by omega)) Ix (by omega)
       have b6:(((l.op:Nat):Int)==6)=false:=by rw[jZ];omega
       have b9:(((l.op:Nat):Int)==9)=false:=by rw[jZ];omega
       have b18:(((l.op:Nat):Int)==18)=false:=by rw[jZ];omega
       have b19:(((l.op:Nat):Int)==19)=false:=by rw[jZ];omega
       have rl:(((l.op:Nat):Int)==20)=false:=by rw[jZ];omega
       have b21:(((l.op:Nat):Int)==21)=false:=by rw[jZ];omega
       have b22:(((l.op:Nat):Int)==22)=false:=by rw[jZ];omega
       clear HR eH ak mi Ir;generalize b.cz q l=b2 at*;go_wp2_with (first
        |(go_at_call 73;go_fit KB;rintro e w1 ⟨rfl,h1⟩;have eJ:=o7.below h1;have cu:=(h1.block _ (lt_of_heap eD)).trans eD;have m0:w1.cell? ⟨wr.heap.size,0,none⟩=_:=cell_of_heap cu 0;have m1:w1.cell? ⟨wr.heap.size,1,none⟩=_:=cell_of_heap cu 1;have m2:w1.cell? ⟨wr.heap.size,2,none⟩=_:=cell_of_heap cu 2;have m3:w1.cell? ⟨wr.heap.size,3,none⟩=_:=cell_of_heap cu 3;have m4:w1.cell? ⟨wr.heap.size,4,none⟩=_:=cell_of_heap cu 4;have m5:w1.cell? ⟨wr.heap.size,5,none⟩=_:=cell_of_heap cu 5;simp at m0 m1 m2 m3 m4 m5)
        |(go_at_call 78;go_fit (KD _ eJ);rintro e w2 ⟨rfl,vi2,vm2,vt2,gF,r2⟩))
       go_roundg (aM.length-(k+1))
       case measure=>omega
       case rel=>exact⟨k+1,f,b',by omega,by omega,by go_num,rfl,by go_num,b2,vi2,vm2,vt2,gF,xP,Rq,.inl ⟨HN.out _ xJ.out,xJ.out⟩⟩
      ·
       have hlen:l.places.length=3:=by rw[hl.bt,ak];rfl
       obtain⟨g,rfl,gP,hg,c4,c5⟩:=ax za hlen 2 (by omega);have hx:=(hl.places (l.places.getD 2 (0,0)) (by simp[hlen])).1;have PC:Hid (∀W,Below w0.heap.size w0 W->W.cell? ⟨g,4,none⟩=some (.int .i64 ((l.places.getD 2 (0,0)).1:Nat))/\W.cell? ⟨g,5,none⟩=some (.int .i64 ((l.places.getD 2 (0,0)).2:Nat))):=fun W hW=>⟨(hW.cell (p:=⟨g,4,none⟩) hg).trans c4,(hW.cell (p:=⟨g,5,none⟩) hg).trans c5⟩
       have KV:=fun(W:World) (hW:dM w0 (w.heap.size+1) a W b vi vm vt)=>dL hW S8 bU (l.places.getD 2 (0,0)) hx
       have KC:=fun(W:World) (hW:dM w0 (w.heap.size+1) a W b vi vm vt) (hz:¬b.val q (l.places.getD 2 (0,0))=0)=>gH hW S8 bU za hl (.inr (.inr (.inr ak))) (fun _=>hz) (hI.val q)
       rw[jb ak]at eH;have ee:ag l 2=l.places.getD 2 (0,0):=rfl;rw[ee]at eH;have xP:=(hI.calc q l).mono (show 200000-(f+1)<=200000-f by omega);have Rq:=tI bU hr ak hH;have b6:(((l.op:Nat):Int)==6)=true:=by rw[beq_iff_eq];omega
       have b9:(((l.op:Nat):Int)==9)=false:=by rw[jZ];omega
       have b18:(((l.op:Nat):Int)==18)=false:=by rw[jZ];omega
       have b19:(((l.op:Nat):Int)==19)=false:=by rw[jZ];omega
       have rl:(((l.op:Nat):Int)==20)=false:=by rw[jZ];omega
       have b21:(((l.op:Nat):Int)==21)=false:=by rw[jZ];omega
       have b22:(((l.op:Nat):Int)==22)=false:=by rw[jZ];omega
       rw[hlen]at o7 eD KB KC k2;clear ee;generalize l.places.getD 2 (0,0)=p2 at*;by_cases hz:b.val q p2=0
       ·have hzb:(b.val q p2==0)=true:=by rw[hz];rfl
        rw[jb hz]at eH;have HA:Hid (bX=(4,0,b)):=(Option.some.inj eH).symm;have KR:=fun(W:World) (hW:dM w0 (w.heap.size+1) a W b vi vm vt)=>ff hW.eG 4 0 (hI.ok (by omega))
        clear HR eH hz KC hlen ak mi;generalize b.val q p2=n2 at*;go_wp2_with (first
         |(go_at_call 73;go_fit KB;rintro e w1 ⟨rfl,h1⟩;have eJ:=o7.below h1;have cu:=(h1.block _ (lt_of_heap eD)).trans eD;have m0:w1.cell? ⟨wr.heap.size,0,none⟩=_:=cell_of_heap cu 0;have m1:w1.cell? ⟨wr.heap.size,1,none⟩=_:=cell_of_heap cu 1;have m2:w1.cell? ⟨wr.heap.size,2,none⟩=_:=cell_of_heap cu 2;have m3:w1.cell? ⟨wr.heap.size,3,none⟩=_:=cell_of_heap cu 3;have m4:w1.cell? ⟨wr.heap.size,4,none⟩=_:=cell_of_heap cu 4;have m5:w1.cell? ⟨wr.heap.size,5,none⟩=_:=cell_of_heap cu 5;simp at m0 m1 m2 m3 m4 m5;obtain⟨q0,q1⟩:=PC.out _ eJ.aZ)
         |(go_at_call 74;go_fit (KV _ eJ);rintro e w3 ⟨rfl,h3⟩;have GW:=eJ.below h3))
        apply wp_goto
        refine hJ _ _ _ _ rfl ?_;go_wp2_with (go_at_call 66;go_fit (KR _ GW);rintro e wz ⟨rfl,vW⟩;have mg:=JL.out _ _ GW.aZ vW;obtain⟨z0,z1,z2,z3,rf0,rf1,rf2,rf3⟩:=dz mg)
        try rw[Exit.noGoto_ret]
        obtain⟨e4,pH⟩:=fe mg (.int .i64 4) (.int .i64 0) (.string (bs b.yd.text)) (.int .i64 b.yd.live);refine bodyPost_ret (bZ Tryz.results49 _ _ _ w.heap.size [.int .i64 4,.int .i64 0,.string (bs b.yd.text),.int .i64 b.yd.live] _ rfl (fun j u hu=>by rw[Nat.zero_add,cell_of_heap e4];simpa using hu) Tryz.underlying47 rfl cd) rfl ?_;exact⟨by rw[HA.out];rfl,QF.out _ _ _ GW.aZ vW pH⟩
       ·have hzb:(b.val q p2==0)=false:=by rw[jZ];exact hz
        rw[ja hz]at eH;have xJ:Hid (da q (room:Nat) f (aM.drop (k+1)) (b.calc q l)=some bX):=eH;have Zl:=fun W hW=>KC W hW hz
        clear HR eH hz KC hlen ak mi;generalize b.val q p2=n2 at*;generalize b.calc q l=b2 at*;go_wp2_with (first
         |(go_at_call 73;go_fit KB;rintro e w1 ⟨rfl,h1⟩;have eJ:=o7.below h1;have cu:=(h1.block _ (lt_of_heap eD)).trans eD;have m0:w1.cell? ⟨wr.heap.size,0,none⟩=_:=cell_of_heap cu 0;have m1:w1.cell? ⟨wr.heap.size,1,none⟩=_:=cell_of_heap cu 1;have m2:w1.cell? ⟨wr.heap.size,2,none⟩=_:=cell_of_heap cu 2;have m3:w1.cell? ⟨wr.heap.size,3,none⟩=_:=cell_of_heap cu 3;have m4:w1.cell? ⟨wr.heap.size,4,none⟩=_:=cell_of_heap cu 4;have m5:w1.cell? ⟨wr.heap.size,5,none⟩=_:=cell_of_heap cu 5;simp at m0 m1 m2 m3 m4 m5;obtain⟨q0,q1⟩:=PC.out _ eJ.aZ)
         |(go_at_call 74;go_fit (KV _ eJ);rintro e w3 ⟨rfl,h3⟩;have GW:=eJ.below h3;have L3:=(h3.block _ (lt_of_heap cu)).trans cu;have n0:w3.cell? ⟨wr.heap.size,0,none⟩=_:=cell_of_heap L3 0;have n1:w3.cell? ⟨wr.heap.size,1,none⟩=_:=cell_of_heap L3 1;have n2:w3.cell? ⟨wr.heap.size,2,none⟩=_:=cell_of_heap L3 2;have n3:w3.cell? ⟨wr.heap.size,3,none⟩=_:=cell_of_heap L3 3;have n4:w3.cell? ⟨wr.heap.size,4,none⟩=_:=cell_of_heap L3 4;have n5:w3.cell? ⟨wr.heap.size,5,none⟩=_:=cell_of_heap L3 5;simp at n0 n1 n2 n3 n4 n5)
         |(go_at_call 75;go_fit (Zl _ GW);rintro e w4 ⟨rfl,gF,r2⟩))
        go_roundg (aM.length-(k+1))
        case measure=>omega
        case rel=>exact⟨k+1,f,b',by omega,by omega,by go_num,rfl,by go_num,b2,vi,vm,vt,gF,xP,Rq,.inl ⟨HN.out _ xJ.out,xJ.out⟩⟩
      ·
       have hlen:l.places.length=2:=by rw[hl.bt,ak];rfl
       obtain⟨g,rfl,gP,hg,c0,c1⟩:=ax za hlen 0 (by omega);obtain⟨g',e',-,-,c2,c3⟩:=ax za hlen 1 (by omega);simp only[Option.some.injEq,Addr.mk.injEq,and_true]at e';subst e';have xY:=(hl.places (l.places.getD 0 (0,0)) (by simp[hlen])).1;have j6:=(hl.places (l.places.getD 1 (0,0)) (by simp[hlen])).1;have PC:Hid (∀W,Below w0.heap.size w0 W->W.cell? ⟨g,0,none⟩=some (.int .i64 ((l.places.getD 0 (0,0)).1:Nat))/\W.cell? ⟨g,1,none⟩=some (.int .i64 ((l.places.getD 0 (0,0)).2:Nat))/\W.cell? ⟨g,2,none⟩=some (.int .i64 ((l.places.getD 1 (0,0)).1:Nat))/\W.cell? ⟨g,3,none⟩=some (.int .i64 ((l.places.getD 1 (0,0)).2:Nat))):=fun W hW=>⟨(hW.cell (p:=⟨g,0,none⟩) hg).trans c0,(hW.cell (p:=⟨g,1,none⟩) hg).trans c1,(hW.cell (p:=⟨g,2,none⟩) hg).trans c2,(hW.cell (p:=⟨g,3,none⟩) hg).trans c3⟩
       have KV:=fun(W:World) (hW:dM w0 (w.heap.size+1) a W b vi vm vt)=>dL hW S8 bU (l.places.getD 1 (0,0)) j6
       have KU:=fun(W:World) (hW:dM w0 (w.heap.size+1) a W b vi vm vt)=>BO hW.eG (b.val q (l.places.getD 1 (0,0))) (Ix.below hW.aZ (by omega)) (hI.ok (by omega)) (by omega)
       have KW:=fun(W:World) (vm' vt':Value) (hW:dM w0 (w.heap.size+1) a W {b with yd:=b.yd.build (b.val q (l.places.getD 1 (0,0)))} vi vm' vt')=>fw hW S8 bU (l.places.getD 0 (0,0)) xY ((b.yd.made.length+1:Nat):Int)
       rw[ja (by omega),jb ak]at eH;have xP:=(hI.new (by omega) q (ag l 0) (hI.val q (ag l 1))).mono (show 200000-(f+1)+1<=200000-f by omega);have Rq:=zM bU hr ak (b.val q (ag l 1)) hH;have hNW:Hid (b.new q (ag l 0) (b.val q (ag l 1))=({b with yd:=b.yd.build (b.val q (l.places.getD 1 (0,0)))}:Br).write q (l.places.getD 0 (0,0)) ((b.yd.made.length+1:Nat):Int)):=rfl;rw[hNW.out]at xP Rq eH;have Y0:=hI.many;have b6:(((l.op:Nat):Int)==6)=false:=by rw[jZ];omega
       have b9:(((l.op:Nat):Int)==9)=true:=by rw[beq_iff_eq];omega
       have b18:(((l.op:Nat):Int)==18)=false:=by rw[jZ];omega
       have b19:(((l.op:Nat):Int)==19)=false:=by rw[jZ];omega
       have rl:(((l.op:Nat):Int)==20)=false:=by rw[jZ];omega
       have b21:(((l.op:Nat):Int)==21)=false:=by rw[jZ];omega
       have b22:(((l.op:Nat):Int)==22)=false:=by rw[jZ];omega
       rw[hlen]at o7 eD KB k2;generalize l.places.getD 0 (0,0)=p0 at*;generalize l.places.getD 1 (0,0)=p1 at*;clear hNW hlen ak mi;generalize b.val q p1=n1 at*;by_cases hz:b.yd.live≥(room:Nat)
       ·rw[jb hz]at eH;have HA:Hid (bX=(3,0,b)):=(Option.some.inj eH).symm;have KR:=fun(W:World) (hW:dM w0 (w.heap.size+1) a W b vi vm vt)=>ff hW.eG 3 0 (hI.ok (by omega))
        have hzI:((room:Nat):Int)<=b.yd.live:=hz;clear HR eH KV KU KW xP Rq hz;go_wp2_with (go_at_call 73;go_fit KB;rintro e w1 ⟨rfl,h1⟩;have eJ:=o7.below h1;have cu:=(h1.block _ (lt_of_heap eD)).trans eD;have m0:w1.cell? ⟨wr.heap.size,0,none⟩=_:=cell_of_heap cu 0;have m1:w1.cell? ⟨wr.heap.size,1,none⟩=_:=cell_of_heap cu 1;have m2:w1.cell? ⟨wr.heap.size,2,none⟩=_:=cell_of_heap cu 2;have m3:w1.cell? ⟨wr.heap.size,3,none⟩=_:=cell_of_heap cu 3;have m4:w1.cell? ⟨wr.heap.size,4,none⟩=_:=cell_of_heap cu 4;have m5:w1.cell? ⟨wr.heap.size,5,none⟩=_:=cell_of_heap cu 5;simp at m0 m1 m2 m3 m4 m5;obtain⟨q0,q1,q2,q3⟩:=PC.out _ eJ.aZ;obtain⟨-,y1,-⟩:=eJ.eG.facts)
        apply wp_goto
        refine hJ _ _ _ _ rfl ?_;go_wp2_with (go_at_call 66;go_fit (KR _ eJ);rintro e wz ⟨rfl,vW⟩;have mg:=JL.out _ _ eJ.aZ vW;obtain⟨z0,z1,z2,z3,rf0,rf1,rf2,rf3⟩:=dz mg)
        try rw[Exit.noGoto_ret]
        obtain⟨e4,pH⟩:=fe mg (.int .i64 3) (.int .i64 0) (.string (bs b.yd.text)) (.int .i64 b.yd.live);refine bodyPost_ret (bZ Tryz.results49 _ _ _ w.heap.size [.int .i64 3,.int .i64 0,.string (bs b.yd.text),.int .i64 b.yd.live] _ rfl (fun j u hu=>by rw[Nat.zero_add,cell_of_heap e4];simpa using hu) Tryz.underlying47 rfl cd) rfl ?_;exact⟨by rw[HA.out];rfl,QF.out _ _ _ eJ.aZ vW pH⟩
       ·rw[ja hz]at eH;have hzI:¬((room:Nat):Int)<=b.yd.live:=hz;have xJ:Hid (da q (room:Nat) f (aM.drop (k+1)) (({b with yd:=b.yd.build n1}:Br).write q p0 ((b.yd.made.length+1:Nat):Int))=some bX):=eH;clear HR eH hz;go_upto_region 18 with(go_at_call 73;go_fit KB;rintro e w1 ⟨rfl,h1⟩;have eJ:=o7.below h1;have cu:=(h1.block _ (lt_of_heap eD)).trans eD;have m0:w1.cell? ⟨wr.heap.size,0,none⟩=_:=cell_of_heap cu 0;have m1:w1.cell? ⟨wr.heap.size,1,none⟩=_:=cell_of_heap cu 1;have m2:w1.cell? ⟨wr.heap.size,2,none⟩=_:=cell_of_heap cu 2;have m3:w1.cell? ⟨wr.heap.size,3,none⟩=_:=cell_of_heap cu 3;have m4:w1.cell? ⟨wr.heap.size,4,none⟩=_:=cell_of_heap cu 4;have m5:w1.cell? ⟨wr.heap.size,5,none⟩=_:=cell_of_heap cu 5;simp at m0 m1 m2 m3 m4 m5;obtain⟨q0,q1,q2,q3⟩:=PC.out _ eJ.aZ;obtain⟨-,y1,-⟩:=eJ.eG.facts)
        have A8:Below w1.heap.size w1 w1.drew:=(Below.refl _ _).drew;go_region_held3 (fun W'=>W'.cell? ⟨g,0,none⟩=some (.int .i64 (p0.1:Nat))/\W'.cell? ⟨g,1,none⟩=some (.int .i64 (p0.2:Nat))/\W'.cell? ⟨g,2,none⟩=some (.int .i64 (p1.1:Nat))/\W'.cell? ⟨g,3,none⟩=some (.int .i64 (p1.2:Nat))) (go_keep)
         (first
         |(go_at_call 74;go_fit (KV _ (eJ.below A8));rintro e w3 ⟨rfl,h3⟩;have GW:=(eJ.below A8).below h3;obtain⟨s0,s1,s2,s3⟩:=PC.out _ GW.aZ)
         |(go_at_call 61;go_fit (KU _ GW);rintro e w4 ⟨rfl,vm4,vt4,y4,r4⟩;have YN:=GW.qe y4 r4;obtain⟨t0,t1,t2,t3⟩:=PC.out _ YN.aZ)
         |(go_at_call 76;go_fit (KW _ _ _ YN);rintro e w5 ⟨rfl,gF,r5⟩;obtain⟨u0,u1,u2,u3⟩:=PC.out _ gF.aZ))
        generalize (({b with yd:=b.yd.build n1}:Br).write q p0 ((b.yd.made.length+1:Nat):Int))=b2 at*;all_goals go_wp2_with fail
        all_goals
         go_roundg (aM.length-(k+1))
         case measure=>omega
         case rel=>exact⟨k+1,f,b',by omega,by omega,by go_num,rfl,by go_num,b2,vi,vm4,vt4,gF,xP,Rq,.inl ⟨HN.out _ xJ.out,xJ.out⟩⟩
      ·
       rw[ja (by omega),ja (by omega),jb ak]at eH;have oz:aM.drop (k+1)=[]:=by
        by_cases iP:aM.drop (k+1)=[]
        ·exact iP
        ·rw[ja iP]at eH;cases eH
       have D4:k+1=aM.length:=by have:=List.drop_eq_nil_iff.mp oz;omega
       rw[jb oz]at eH;have lg:(if b.other q l then 1 else 0)<l.next.length:=by
        have iP:l.next.length=if l.op=18 then 1 else 2:=by
         rw[hl.pa];rcases ak with e|e|e|e<;>rw[e]<;>rfl
        rw[iP];by_cases e:l.op=18
        ·have:b.other q l=false:=by rw[Br.other,ja (by omega),ja (by omega),ja (by omega)]
         rw[this,jb e];decide
        ·rw[ja e];split<;>omega
       have KX:=fun(W:World) (hW:dM w0 (w.heap.size+1) a W b vi vm vt)=>pU hW S8 bU za hl ak (fun e=>hr.flag (.inr e)) lg
       have G1:l.next.getD (if b.other q l then 1 else 0) 0<q.blocks.length:=hl.next _ (by rw[jA,jB lg];exact jL _);have xJ:Hid (da q (room:Nat) f (q.blocks.getD (l.next.getD (if b.other q l then 1 else 0) 0) []) b=some bX):=eH;have xP:=hI.mono (show 200000-(f+1)<=200000-f by omega);have b6:(((l.op:Nat):Int)==6)=false:=by rw[jZ];omega
       have b9:(((l.op:Nat):Int)==9)=false:=by rw[jZ];omega
       have It:((((l.op:Nat):Int)==18)=true)\/((((l.op:Nat):Int)==18)=false/\(((l.op:Nat):Int)==19)=true)\/((((l.op:Nat):Int)==18)=false/\(((l.op:Nat):Int)==19)=false/\(((l.op:Nat):Int)==20)=true)\/((((l.op:Nat):Int)==18)=false/\(((l.op:Nat):Int)==19)=false/\(((l.op:Nat):Int)==20)=false/\(((l.op:Nat):Int)==21)=true):=by
        rcases ak with e|e|e|e<;>rw[e]<;>simp
       clear HR eH oz lg ak mi;generalize l.next.getD (if b.other q l then 1 else 0) 0=bn at*;rcases It with b18|⟨b18,b19⟩|⟨b18,b19,rl⟩|⟨b18,b19,rl,b21⟩
       all_goals
        go_wp2_with (first
         |(go_at_call 73;go_fit KB;rintro e w1 ⟨rfl,h1⟩;have eJ:=o7.below h1;have cu:=(h1.block _ (lt_of_heap eD)).trans eD;have m0:w1.cell? ⟨wr.heap.size,0,none⟩=_:=cell_of_heap cu 0;have m1:w1.cell? ⟨wr.heap.size,1,none⟩=_:=cell_of_heap cu 1;have m2:w1.cell? ⟨wr.heap.size,2,none⟩=_:=cell_of_heap cu 2;have m3:w1.cell? ⟨wr.heap.size,3,none⟩=_:=cell_of_heap cu 3;have m4:w1.cell? ⟨wr.heap.size,4,none⟩=_:=cell_of_heap cu 4;have m5:w1.cell? ⟨wr.heap.size,5,none⟩=_:=cell_of_heap cu 5;simp at m0 m1 m2 m3 m4 m5)
         |(go_at_call 77;go_fit (KX _ eJ);rintro e w3 ⟨rfl,h3⟩))
        go_roundg (aM.length-(k+1))
        case measure=>omega
        case rel=>exact⟨k+1,f,bn,by omega,by omega,by go_num,rfl,by go_num,b,vi,vm,vt,eJ.below h3,xP,hH,.inr ⟨D4,G1,xJ.out⟩⟩
      ·
       have hlen:l.places.length=1:=by rw[hl.bt,ak];rfl
       obtain⟨g,rfl,gP,hg,c0,c1⟩:=ax za hlen 0 (by omega);have xY:=(hl.places (l.places.getD 0 (0,0)) (by simp[hlen])).1;have PC:Hid (∀W,Below w0.heap.size w0 W->W.cell? ⟨g,0,none⟩=some (.int .i64 ((l.places.getD 0 (0,0)).1:Nat))/\W.cell? ⟨g,1,none⟩=some (.int .i64 ((l.places.getD 0 (0,0)).2:Nat))):=fun W hW=>⟨(hW.cell (p:=⟨g,0,none⟩) hg).trans c0,(hW.cell (p:=⟨g,1,none⟩) hg).trans c1⟩
       have KV:=fun(W:World) (hW:dM w0 (w.heap.size+1) a W b vi vm vt)=>dL hW S8 bU (l.places.getD 0 (0,0)) xY
       rw[ja (by omega),ja (by omega),ja (by omega),jb ak]at eH;have HA:Hid (bX=(1,b.val q (l.places.getD 0 (0,0)),b)):=(Option.some.inj eH).symm;have KR:=fun(n:Int) (W:World) (hW:dM w0 (w.heap.size+1) a W b vi vm vt)=>ff hW.eG 1 n (hI.ok (by omega))
       have b6:(((l.op:Nat):Int)==6)=false:=by rw[jZ];omega
       have b9:(((l.op:Nat):Int)==9)=false:=by rw[jZ];omega
       have b18:(((l.op:Nat):Int)==18)=false:=by rw[jZ];omega
       have b19:(((l.op:Nat):Int)==19)=false:=by rw[jZ];omega
       have rl:(((l.op:Nat):Int)==20)=false:=by rw[jZ];omega
       have b21:(((l.op:Nat):Int)==21)=false:=by rw[jZ];omega
       have b22:(((l.op:Nat):Int)==22)=true:=by rw[beq_iff_eq];omega
       rw[hlen]at o7 eD KB k2;generalize l.places.getD 0 (0,0)=p0 at*;clear HR eH hlen ak mi;generalize b.val q p0=n0 at*;go_wp2_with (first
        |(go_at_call 73;go_fit KB;rintro e w1 ⟨rfl,h1⟩;have eJ:=o7.below h1;have cu:=(h1.block _ (lt_of_heap eD)).trans eD;have m0:w1.cell? ⟨wr.heap.size,0,none⟩=_:=cell_of_heap cu 0;have m1:w1.cell? ⟨wr.heap.size,1,none⟩=_:=cell_of_heap cu 1;have m2:w1.cell? ⟨wr.heap.size,2,none⟩=_:=cell_of_heap cu 2;have m3:w1.cell? ⟨wr.heap.size,3,none⟩=_:=cell_of_heap cu 3;have m4:w1.cell? ⟨wr.heap.size,4,none⟩=_:=cell_of_heap cu 4;have m5:w1.cell? ⟨wr.heap.size,5,none⟩=_:=cell_of_heap cu 5;simp at m0 m1 m2 m3 m4 m5;obtain⟨q0,q1⟩:=PC.out _ eJ.aZ)
        |(go_at_call 74;go_fit (KV _ eJ);rintro e w3 ⟨rfl,h3⟩;have GW:=eJ.below h3))
       apply wp_goto
       refine hJ _ _ _ _ rfl ?_;go_wp2_with (go_at_call 66;go_fit (KR _ _ GW);rintro e wz ⟨rfl,vW⟩;have mg:=JL.out _ _ GW.aZ vW;obtain⟨z0,z1,z2,z3,rf0,rf1,rf2,rf3⟩:=dz mg)
       try rw[Exit.noGoto_ret]
       obtain⟨e4,pH⟩:=fe mg (.int .i64 1) (.int .i64 n0) (.string (bs b.yd.text)) (.int .i64 b.yd.live);refine bodyPost_ret (bZ Tryz.results49 _ _ _ w.heap.size [.int .i64 1,.int .i64 n0,.string (bs b.yd.text),.int .i64 b.yd.live] _ rfl (fun j u hu=>by rw[Nat.zero_add,cell_of_heap e4];simpa using hu) Tryz.underlying47 rfl cd) rfl ?_;exact⟨by rw[HA.out];rfl,QF.out _ _ _ GW.aZ vW pH⟩
     ·rw[mi]at KB;have eH:=HR.out;rw[da,jb mi]at eH;have HA:Hid (bX=(5,0,b)):=(Option.some.inj eH).symm;have KR:=fun(W:World) (hW:dM w0 (w.heap.size+1) a W b vi vm vt)=>ff hW.eG 5 0 (hI.ok (by omega))
      clear HR eH mi;go_wp2_with (go_at_call 73;go_fit KB;rintro e w1 ⟨rfl,h1⟩;have eJ:=o7.below h1;have cu:=(h1.block _ (lt_of_heap eD)).trans eD;have m0:w1.cell? ⟨wr.heap.size,0,none⟩=_:=cell_of_heap cu 0;have m1:w1.cell? ⟨wr.heap.size,1,none⟩=_:=cell_of_heap cu 1;have m2:w1.cell? ⟨wr.heap.size,2,none⟩=_:=cell_of_heap cu 2;have m3:w1.cell? ⟨wr.heap.size,3,none⟩=_:=cell_of_heap cu 3;have m4:w1.cell? ⟨wr.heap.size,4,none⟩=_:=cell_of_heap cu 4;have m5:w1.cell? ⟨wr.heap.size,5,none⟩=_:=cell_of_heap cu 5;simp at m0 m1 m2 m3 m4 m5)
      apply wp_goto
      refine hJ _ _ _ _ rfl ?_;go_wp2_with (go_at_call 66;go_fit (KR _ eJ);rintro e wz ⟨rfl,vW⟩;have mg:=JL.out _ _ eJ.aZ vW;obtain⟨z0,z1,z2,z3,rf0,rf1,rf2,rf3⟩:=dz mg)
      try rw[Exit.noGoto_ret]
      obtain⟨e4,pH⟩:=fe mg (.int .i64 5) (.int .i64 0) (.string (bs b.yd.text)) (.int .i64 b.yd.live);refine bodyPost_ret (bZ Tryz.results49 _ _ _ w.heap.size [.int .i64 5,.int .i64 0,.string (bs b.yd.text),.int .i64 b.yd.live] _ rfl (fun j u hu=>by rw[Nat.zero_add,cell_of_heap e4];simpa using hu) Tryz.underlying47 rfl cd) rfl ?_;exact⟨by rw[HA.out];rfl,QF.out _ _ _ eJ.aZ vW pH⟩
   ·have hk:k=aM.length:=by omega
    subst hk;obtain⟨b,vi,vm,vt,hO,hI,hH,pJ⟩:=fy.out;have E4:b'<q.blocks.length/\Hid (da q (room:Nat) f (q.blocks.getD b' []) b=some bX):=by
     rcases pJ with⟨h,-⟩|⟨-,h1,h2⟩
     ·omega
     ·exact⟨h1,h2⟩
    clear fy pJ;go_wp2
    go_roundg (f+1)
    case measure=>omega
    case rel=>exact⟨f,b',rfl,by omega,rfl,rfl,E4.1,b,vi,vm,vt,hO,hI,hH,E4.2.out⟩
end
end Ex
end Go.Proofs.YtmlgajhhnojdjaaGreatDoor

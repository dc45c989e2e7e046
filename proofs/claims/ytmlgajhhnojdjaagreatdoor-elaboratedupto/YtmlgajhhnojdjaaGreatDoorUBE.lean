import Derived.Test.YtmlgajhhnojdjaaGreatDoorUBD
set_option maxHeartbeats 8000000
namespace Go.Proofs.YtmlgajhhnojdjaaGreatDoor
namespace El
open Go Go.RowKit Sq Aux Go.Proofs.YtmlgajhhnojdjaaGreatDoor.Own PrjF PrjG PrjJ PrjK PrjL PrjM PrjO PrjP PrjQ PrjS PrjT PrjU FlwA FlwB FlwE FlwF FlwG FlwI FlwJ FlwM
attribute [local go_sem ↓] dd cO
def gD (q:QP):List ab->List Nat->List Nat
 |[],s=>s
 |l::ls,s=>gD q ls (aq q l s)
theorem pY (q:QP)(l:ab):∀(ls:List ab) (s:List Nat),gD q (ls++[l]) s=aq q l (gD q ls s)
 |[],_=>rfl
 |x::ls,s=>pY q l ls (aq q x s)
theorem zo (q:QP)(un:List Bool)(l:ab):∀(ls:List ab) (s:List Nat),bO q un (ls++[l]) s=bO q un ls s++bB q un (gD q ls s) l
 |[],s=>by show bB q un s l++[]=[]++bB q un s l;rw[List.append_nil,List.nil_append]
 |x::ls,s=>by
  show bB q un s x++bO q un (ls++[l]) (aq q x s)=(bB q un s x++bO q un ls (aq q x s))++_
  rw[zo q un l ls,List.append_assoc];rfl
theorem vr (q:QP):∀(ls:List ab) {s:List Nat},ey s->ey (gD q ls s)
 |[],_,h=>h
 |l::ls,_,h=>vr q ls (fU q l h)
theorem gR {α:Type}{ls:List α}{k:Nat}(hk:k<ls.length)(d:α):ls.take (k+1)=ls.take k++[ls.getD k d]:=by
 rw[List.take_add_one,jB hk,jA,jB hk];rfl
theorem tf {is js:List Item}{n k:Nat}(h:(∀i∈is,i.vA)/\is.length<=n)(h':(∀i∈js,i.vA)/\js.length<=k):(∀i∈is++js,i.vA)/\(is++js).length<=n+k:=
 ⟨fun i hi=>(List.mem_append.1 hi).elim (h.1 i) (h'.1 i),by rw[jV];have:=h.2;have:=h'.2;omega⟩
theorem Mt {q:QP}{nb:Nat}{l:ab}(hk:fY q.locals.length nb l)(bR:q.locals.length<=12)(un:List Bool)(s:List Nat):(∀i∈bB q un s l,i.vA)/\(bB q un s l).length<=127:=by
 have h1:(∀i∈aN (aL q l s) (aW q l),i.vA)/\(aN (aL q l s) (aW q l)).length<=100:=⟨(iN _ _).1,jS (iN _ _).2 (mo hk bR).2⟩;have h2:(∀i∈(if l.op=15 then []else [Item.line l]),i.vA)/\(if l.op=15 then []else [Item.line l]).length<=1:=by
  split
  ·exact⟨fun i hi=>(by cases hi),by simp⟩
  ·exact⟨fun i hi=>by rw[jI.1 hi];trivial,by simp⟩
 have h3:(∀i∈(if l.op=12 then bJ un (aq q l s) (ag l 0)else []),i.vA)/\(if l.op=12 then bJ un (aq q l s) (ag l 0)else []).length<=2:=by
  split
  ·unfold bJ;split
   ·refine⟨fun i hi=> ?_,by simp⟩;simp only[List.mem_cons,List.not_mem_nil,or_false]at hi;rcases hi with rfl|rfl
    ·trivial
    ·show [dE _ 0].length<=1;simp
   ·exact⟨fun i hi=>(by cases hi),by simp⟩
  ·exact⟨fun i hi=>(by cases hi),by simp⟩
 exact tf h1 (tf h2 (tf (iM un s (aq q l s) 24) h3))
theorem oj {q:QP}{nb:Nat}(bR:q.locals.length<=12)(un:List Bool):∀(ls:List ab) (s:List Nat),(∀l∈ls,fY q.locals.length nb l)->(∀i∈bO q un ls s,i.vA)/\(bO q un ls s).length<=127*ls.length
 |[],_,_=>⟨fun i hi=>(by cases hi),by simp[bO]⟩
 |l::ls,s,h=>by
  have h1:=Mt (h l (jM ..)) bR un s;have h2:=oj bR un ls (aq q l s) (fun x hx=>h x (jN _ hx));have:=tf h1 h2;exact⟨this.1,by have:=this.2;rw[jY];show(bB q un s l++bO q un ls (aq q l s)).length<=_;omega⟩
structure Src (z a:Nat)(w0:World)(q:QP)(vl vb:Value)(us:List Value)(vss:List (List (Value×Value)))(E:List (List Nat)):Prop where
 prog:gS z a w0 q vl vb us vss
 len:E.length=q.blocks.length
 ok:AE q.blocks.length q
 some:0<q.locals.length
 mc:q.locals.length<=12
 many:q.blocks.length<=4000
 long:∀j,(q.blocks.getD j []).length<=4000
end El
namespace El
open Go Go.RowKit Sq Aux Go.Proofs.YtmlgajhhnojdjaaGreatDoor.Own PrjF PrjG PrjJ PrjK PrjL PrjM PrjO PrjP PrjQ PrjS PrjT PrjU FlwA FlwB FlwE FlwF FlwG FlwI FlwJ FlwM
attribute [local go_sem ↓] dd cO
section
variable {z x a ap:Nat} {w0 w:World} {un:List Bool} {m:Mk} {O:Nat->Prop} {q:QP} {vl vb:Value} {us:List Value} {vss:List (List (Value×Value))} {E:List (List Nat)}
theorem Src.below (h:Src z a w0 q vl vb us vss E){W:World}(hb:Below w0.heap.size w0 W):Src z a W q vl vb us vss E:=
 ⟨h.prog.below hb,h.len,h.ok,h.some,h.mc,h.many,h.long⟩
theorem Src.pq (h:Src z a w0 q vl vb us vss E):PQ w0 a q vl vb:=⟨h.prog.aM,⟨_,h.prog.locals⟩⟩
theorem cH.from {ve:Value}(h:cH z w0 x a ve w un m O):Below w0.heap.size w0 w:=by obtain⟨_,_,_,h⟩:=h;exact h.aZ
theorem R9 {W:World}{g n:Nat}(hz:z<=g)(hb:W.heap[g]?=some (.cells #[.int .i64 (n:Nat)] 3 (0,0))):W.ownsRow z 3 1 (.slice (some ⟨g,0,none⟩) 1 1) 1 (eg [n]):=
 ⟨rfl,.inr ⟨g,1,_,rfl,hz,hb,jC _,by unfold maxLen;omega,rfl,rfl⟩⟩
set_option maxRecDepth 20000 in
theorem Bg {K:Nat}(S:Src z a w0 q vl vb us vss E)(h:cH z w0 x a (.slice (some ⟨ap,0,none⟩) q.blocks.length q.blocks.length) w un m O)(hR:dG w ap E)(hRO:¬O ap)(hm:m.Small K)(b:Nat)(hb:b<q.blocks.length)(RR:b<m.blocks.length)(hK:K+254*(q.blocks.getD b []).length<=70000):
  Calls Tryz.prog 81 #[.pointer (some ⟨x,0,none⟩),.int .i64 (b:Nat)] w fun e w'=>e=.returned (.tuple #[])/\∃O',cH z w0 x a (.slice (some ⟨ap,0,none⟩) q.blocks.length q.blocks.length) w' un (mG q E un b m) O'/\Fr O w O' w':=by
 have o8:=h.from.size;have hzz:z<=w0.heap.size:=by obtain⟨_,_,_,h⟩:=h;exact h.K9
 have RC:b<E.length:=by rw[S.len];exact hb
 have WJ:(b:Int)<(q.blocks.length:Nat):=by omega
 have hE:=hR.ok RC;obtain⟨c27,f27⟩:w.cell? ⟨x,27,none⟩=some (.int .i64 (m.at_:Nat))/\w.frozen? ⟨x,27,none⟩=false:=by obtain⟨_,_,_,h⟩:=h;exact⟨h.facts.2.2.2.1,h.facts.2.2.2.2.2⟩
 obtain⟨W1,oU⟩:∃W1,w.setCell ⟨x,27,none⟩ (.int .i64 (b:Nat))=W1:=⟨_,rfl⟩;obtain⟨h1,F1⟩:=h.setAt b;rw[oU]at h1 F1;have iQ:W1.heap.size=w.heap.size:=by rw[<-oU];exact World.size_setCell ..
 have GX:=hR.heap (F1.block ap hR.lt hRO);have has:=GX.has b RC;have RS:=GX.of b RC;obtain⟨x1,x2⟩:W1.cell? ⟨x,0,none⟩=some (.pointer (some ⟨a,0,none⟩))/\W1.cell? ⟨x,1,none⟩=some (.slice (some ⟨ap,0,none⟩) q.blocks.length q.blocks.length):=by obtain⟨_,_,_,h⟩:=h1;exact⟨h.facts.1,h.facts.2.1⟩
 obtain⟨Z,hZ⟩:∃Z:Array Value,(#[.int .u8 0,.int .u8 0,.int .u8 0,.int .u8 0,.int .u8 0,.int .u8 0,.int .u8 0,.int .u8 0,.int .u8 0,.int .u8 0,.int .u8 0,.int .u8 0,.int .u8 0,.int .u8 0,.int .u8 0,.int .u8 0,.int .u8 0,.int .u8 0,.int .u8 0,.int .u8 0,.int .u8 0,.int .u8 0,.int .u8 0,.int .u8 0]:Array Value)=Z:=⟨_,rfl⟩;have hZs:Z=(aj au).toArray:=hZ.symm;obtain⟨W2,tB⟩:∃W2,W1.alloc (.cells Z 209)=W2:=⟨_,rfl⟩;have bH:Below W1.heap.size W1 W2:=by rw[<-tB];exact(Below.refl _ _).alloc (jC _) _
 have y8:av W2 w.heap.size au:=by rw[<-tB,<-iQ,hZs];exact av.new W1 (by decide)
 clear hZs;have gy:=av.room y8;have qL:=iu hE.len;obtain⟨V,hV⟩:∃V,W2.setCells w.heap.size 0 (aj (E.getD b []))=V:=⟨_,rfl⟩;have OG:av V w.heap.size (E.getD b []):=by rw[<-hV];exact av.store y8 hE.len
 have Ui:Below W1.heap.size W1 V:=by rw[<-hV];exact bp bH (by omega) _ _
 have QM:=h1.below Ui;have Vl:Fr O w O V:=F1.trans (Fr.of Ui);have hmS:(⟨m.blocks,b⟩:Mk).Small K:=⟨RR,hm.many,hm.lines⟩;have Vo:¬O w.heap.size:=h.fresh (jC _);have hwV:w.heap.size<V.heap.size:=OG.lt;have HE:Hid (mG q E un b m=if E.getD b []=au then(⟨m.blocks,b⟩:Mk).put [eB b]else(⟨m.blocks,b⟩:Mk).items (bO q un (q.blocks.getD b []) (E.getD b []))):=rfl;have KR:=xu w.heap.size (E.getD b []) V OG hE.lt;have SV:=S.below QM.from;generalize E.getD b []=e0 at*;go_enter Tryz.func81,Tryz.ntmps81
 go_upto_region 2 with fail
 clear oU tB hV hZ has RS x1 x2 gy qL bH y8 Ui c27 f27 F1 h1 GX hR;by_cases he:e0=au
 ·have hr:(!(e0==au))=false:=by rw[he];simp
  rw[hr]at KR;have Zb:Hid (mG q E un b m=(⟨m.blocks,b⟩:Mk).put [eB b]):=HE.out.trans (jb he);clear HE hr he;have KT:=xA b V;have HP:Hid (∀{W:World} {g:Nat},Below V.heap.size V W->V.heap.size<=g->W.heap[g]?=some (.cells #[.int .i64 (b:Nat)] 3 (0,0))->Calls Tryz.prog 130 #[.pointer (some ⟨x,0,none⟩),.slice (some ⟨W.heap.size,0,none⟩) 1 1] (W.alloc (.cells #[.int .i64 0,.int .i64 18,.slice none 0 0,.int .i64 0,.int .i64 0,.slice (some ⟨g,0,none⟩) 1 1] 115)) fun e w'=>e=.returned (.tuple #[])/\∃O',cH z w0 x a (.slice (some ⟨ap,0,none⟩) q.blocks.length q.blocks.length) w' un ((⟨m.blocks,b⟩:Mk).put [eB b]) O'/\Fr O w O' w'):=fun{W g} hW hg hr=>by
   have Il:Below V.heap.size V (W.alloc (.cells #[.int .i64 0,.int .i64 18,.slice none 0 0,.int .i64 0,.int .i64 0,.slice (some ⟨g,0,none⟩) 1 1] 115)):=hW.alloc hW.size _;have Y1:(W.alloc (.cells #[.int .i64 0,.int .i64 18,.slice none 0 0,.int .i64 0,.int .i64 0,.slice (some ⟨g,0,none⟩) 1 1] 115)).heap[g]?=some (.cells #[.int .i64 (b:Nat)] 3 (0,0)):=(((Below.refl W.heap.size W).alloc (jC _) _).block g (lt_of_heap hr)).trans hr;refine(iz (c:=1) (ls:=[eB b]) (QM.below Il) hmS.at_ (kR (g:=W.heap.size) (vp:=.slice none 0 0) (vn:=.slice (some ⟨g,0,none⟩) 1 1) ⟨World.ownsRow_nil _ _ _ _,R9 (by omega) Y1⟩ jD) (by simp) (by have:=hmS.lines b;show((⟨m.blocks,b⟩:Mk).blocks.getD b []).length+[eB b].length<=_;rw[List.length_singleton];omega)).mono ?_;rintro e w' ⟨rfl,O9,h9,F9⟩;exact⟨rfl,O9,h9,Vl.trans ((Fr.of Il).trans F9)⟩
  go_wp2_with (first
   |(go_at_call 129;refine KR.mono ?_;rintro e w1 ⟨rfl,rfl⟩)
   |(go_at_call 131;refine KT.mono ?_;rintro e w2 ⟨g,rfl,bH,OQ,pM⟩;have KP:=HP.out bH OQ pM)
   |(go_at_call 130;refine KP.mono ?_;rintro e w3 ⟨rfl,O9,h9,F9⟩))
  try simp only[Exit.inBlock,Exit.then]
  refine bodyPost_ret (results_none rfl _ _ _) rfl ?_;exact⟨rfl,O9,by rw[Zb.out];exact h9,F9⟩
 ·have hr:(!(e0==au))=true:=by simp[he]
  rw[hr]at KR;have Zb:Hid (mG q E un b m=(⟨m.blocks,b⟩:Mk).items (bO q un (q.blocks.getD b []) e0)):=HE.out.trans (ja he);clear HE hr he;obtain⟨gb,cb,adk,ck,rfl,B8,B9,aX,Kd⟩:=fZ SV.prog b hb;obtain⟨p0,p1,-,-⟩:=gS.facts SV.prog;obtain⟨x1,-⟩:=QM.zero;have HB:Hid (dD z w0 (.slice adk (q.blocks.getD b []).length ck) (q.blocks.getD b []) (vss.getD b [])):=by
   have h1:=S.prog.each b hb;rw[Kd]at h1;exact h1
  have qU:∀l∈q.blocks.getD b [],fY q.locals.length q.blocks.length l:=S.ok.lines _ (by simp[hb]);have qS:=S.long b;clear Kd;generalize q.blocks.getD b []=aM at*;generalize vss.getD b []=vsj at*;go_wp2_with (go_at_call 129;refine KR.mono ?_;rintro e w1 ⟨rfl,rfl⟩)
  clear KR;go_loopg [36] (aM.length) (fun g v36 wr=>∃(k:Nat) (O':Nat->Prop),k<=aM.length/\g+k=aM.length/\v36=.int .i64 k/\cH z w0 x a (.slice (some ⟨ap,0,none⟩) q.blocks.length q.blocks.length) wr un ((⟨m.blocks,b⟩:Mk).items (bO q un (aM.take k) e0)) O'/\av wr w.heap.size (gD q (aM.take k) e0)/\¬O' w.heap.size/\Fr O w O' wr)
  case atStart=>exact⟨0,O,jQ _,rfl,rfl,QM,OG,Vo,Vl⟩
  case round=>
   obtain⟨k,O',hk,Ca,rfl,ll,xR,hOr,J4⟩:=hrel;clear QM OG Vl aX p0 p1 x1;by_cases bg:k<aM.length
   ·obtain⟨gl,apl,cp,an,cn,rfl,-,AH,sf,k0,k1,k2,k3,k4,k5,Ii⟩:=lA HB.out k bg;have hl:=qU (aM.getD k ab.nil) (by simp[bg]);have Bb:=vr q (aM.take k) hE;have HI:Hid ((⟨m.blocks,b⟩:Mk).items (bO q un (aM.take (k+1)) e0)=((⟨m.blocks,b⟩:Mk).items (bO q un (aM.take k) e0)).items (bB q un (gD q (aM.take k) e0) (aM.getD k ab.nil))):=by
     unfold Hid;rw[gR bg ab.nil,zo,iS]
    have HT:Hid (gD q (aM.take (k+1)) e0=aq q (aM.getD k ab.nil) (gD q (aM.take k) e0)):=by unfold Hid;rw[gR bg ab.nil,pY]
    have RY:((⟨m.blocks,b⟩:Mk).items (bO q un (aM.take k) e0)).Small (K+254*k):=(hmS.items _ (oj S.mc un (aM.take k) e0 (fun l hl=>qU l (List.mem_of_mem_take hl))).1).mono (by have:=(oj S.mc un (aM.take k) e0 (fun l hl=>qU l (List.mem_of_mem_take hl))).2;rw[List.length_take]at this;omega);have hKk:K+254*k<=80000:=by omega
    have c0:=(ll.from.cell (p:=⟨gl,k*6,none⟩) sf).trans k0;have c1:=(ll.from.cell (p:=⟨gl,k*6+1,none⟩) sf).trans k1;have c2:=(ll.from.cell (p:=⟨gl,k*6+2,none⟩) sf).trans k2;have c3:=(ll.from.cell (p:=⟨gl,k*6+3,none⟩) sf).trans k3;have c4:=(ll.from.cell (p:=⟨gl,k*6+4,none⟩) sf).trans k4;have c5:=(ll.from.cell (p:=⟨gl,k*6+5,none⟩) sf).trans k5;clear k0 k1 k2 k3 k4 k5;have NO:(k:Int)<aM.length:=by omega
    generalize aM.getD k ab.nil=l at*;generalize gD q (aM.take k) e0=t at*;generalize (⟨m.blocks,b⟩:Mk).items (bO q un (aM.take k) e0)=mk at*;have lW:Below wr.heap.size wr (wr.alloc (.cells #[.int .i64 (l.num:Nat),.int .i64 (l.op:Nat),.slice apl l.places.length cp,.int .i64 l.number,.int .i64 l.flag,.slice an l.next.length cn] 115)):=(Below.refl _ _).alloc (jC _) _;have AL:(wr.alloc (.cells #[.int .i64 (l.num:Nat),.int .i64 (l.op:Nat),.slice apl l.places.length cp,.int .i64 l.number,.int .i64 l.flag,.slice an l.next.length cn] 115)).heap[wr.heap.size]?=some (.cells #[.int .i64 (l.num:Nat),.int .i64 (l.op:Nat),.slice apl l.places.length cp,.int .i64 l.number,.int .i64 l.flag,.slice an l.next.length cn] 115 (0,0)):=jD;go_upto_region 7 with fail
    generalize (wr.alloc (.cells #[.int .i64 (l.num:Nat),.int .i64 (l.op:Nat),.slice apl l.places.length cp,.int .i64 l.number,.int .i64 l.flag,.slice an l.next.length cn] 115))=WL at*;have YM:=ll.below lW;have G0:=xR.below lW xR.lt;have ZQ:¬O' wr.heap.size:=ll.fresh (jC _);have YL:=J4.trans (Fr.of lW);have l0:=(cell_of_heap AL 0).trans (by rfl:_=some (Value.int .i64 (l.num:Nat)));have l1:=(cell_of_heap AL 1).trans (by rfl:_=some (Value.int .i64 (l.op:Nat)));have l2:=(cell_of_heap AL 2).trans (by rfl:_=some (Value.slice apl l.places.length cp));have l3:=(cell_of_heap AL 3).trans (by rfl:_=some (Value.int .i64 l.number));have l4:=(cell_of_heap AL 4).trans (by rfl:_=some (Value.int .i64 l.flag));have l5:=(cell_of_heap AL 5).trans (by rfl:_=some (Value.slice an l.next.length cn));have t0:=av.has G0;have o0:=av.of G0;have KM:=Dy N6 YM RY hKk t Bb S.pq S.some S.mc Ii hl;clear ll xR J4 lW c0 c1 c2 c3 c4 c5;go_upto_region 8 with(go_at_call 132;refine KM.mono ?_;rintro e w2 ⟨rfl,O2,h2,F2⟩)
    clear KM l0 l1 l2 l3 l4 l5 t0 o0;have pM:=(F2.block wr.heap.size (lt_of_heap AL) ZQ).trans AL;have qK:=av.fr G0 F2 hOr;have Wi:=YL.trans F2;have gF:¬O2 w.heap.size:=fun e=>(F2.new _ e).elim hOr (fun e=>by have:=G0.lt;omega)
    have lX:Below w2.heap.size w2 w2.drew:=⟨rfl,rfl,rfl,jC _,fun _ _=>rfl⟩;have xQ:=h2.below lX;have Ta:av w2.drew w.heap.size t:=qK;obtain⟨x0,-⟩:=h2.zero;have l0:=(cell_of_heap pM 0).trans (by rfl:_=some (Value.int .i64 (l.num:Nat)));have l1:=(cell_of_heap pM 1).trans (by rfl:_=some (Value.int .i64 (l.op:Nat)));have l2:=(cell_of_heap pM 2).trans (by rfl:_=some (Value.slice apl l.places.length cp));have l3:=(cell_of_heap pM 3).trans (by rfl:_=some (Value.int .i64 l.number));have l4:=(cell_of_heap pM 4).trans (by rfl:_=some (Value.int .i64 l.flag));have l5:=(cell_of_heap pM 5).trans (by rfl:_=some (Value.slice an l.next.length cn));have KP:=pZ q l q.blocks.length z a w.heap.size vl _ apl an cp cn t w2.drew (S.pq.below xQ.from) S.mc hl (Ii.below xQ.from) Ta Bb.lt;go_region_with (go_at_call 128;refine KP.mono ?_;rintro e w3 ⟨rfl,GZ,A0⟩)
    all_goals go_wp2_with fail
    all_goals
     go_roundg (aM.length-(k+1))
     case measure=>omega
     case rel=>exact⟨k+1,O2,by omega,by omega,by go_num,by rw[HI.out];exact xQ.fX Ta gF (by omega) A0,by rw[HT.out];exact GZ,gF,(Wi.trans (Fr.of lX)).fX A0 (jC _)⟩
   ·have mY:k=aM.length:=by omega
    subst mY;rw[List.take_length]at ll;go_wp2
    go_end0
    exact⟨rfl,O',by rw[Zb.out];exact ll,J4⟩
end
end El
namespace El
open Go Go.RowKit Sq Aux Go.Proofs.YtmlgajhhnojdjaaGreatDoor.Own PrjF PrjG PrjJ PrjK PrjL PrjM PrjO PrjP PrjQ PrjS PrjT PrjU FlwA FlwB FlwE FlwF FlwG FlwI FlwJ FlwM
attribute [local go_sem ↓] dd cO
theorem Eh (q:QP)(l:ab):∀(ls:List ab) (s:List Nat) (un:List Bool),kE q (ls++[l]) s un=gO (aL q l (gD q ls s)) (aW q l) (kE q ls s un)
 |[],_,_=>rfl
 |x::ls,s,_=>Eh q l ls (aq q x s) _
theorem Hk (s:List Nat)(ps:List (Nat×Nat))(p:Nat×Nat)(un:List Bool):gO s (ps++[p]) un=if cg (s.getD (ae p) 0)=true then(gO s ps un).set (ae p) true else gO s ps un:=by
 unfold gO;rw[List.foldl_append];rfl
theorem cH.Kz {z x a:Nat}{w0 w:World}{ve:Value}{un:List Bool}{m:Mk}{O:Nat->Prop}(h:cH z w0 x a ve w un m O){j:Nat}(hj:j<24)(v:Bool):cH z w0 x a ve (w.setCell ⟨x,2+j,none⟩ (.bool v)) (un.set j v) m O/\Fr O w O (w.setCell ⟨x,2+j,none⟩ (.bool v)):=by
 obtain⟨vb,us,vss,h⟩:=h;obtain⟨h1,h2⟩:=h.Kz hj v;exact⟨⟨vb,us,vss,h1⟩,h2⟩
theorem cH.U8 {z x a:Nat}{w0 w:World}{ve:Value}{un:List Bool}{m:Mk}{O:Nat->Prop}(h:cH z w0 x a ve w un m O){j:Nat}(hj:j<24):w.cell? ⟨x,2+j,none⟩=some (.bool (un.getD j false))/\w.frozen? ⟨x,2+j,none⟩=false:=by
 obtain⟨vb,us,vss,h⟩:=h;exact h.U7 hj
section
variable {z x a ap:Nat} {w0 w:World} {un:List Bool} {m:Mk} {O:Nat->Prop} {q:QP} {vl vb:Value} {us:List Value} {vss:List (List (Value×Value))} {E:List (List Nat)}
set_option maxRecDepth 20000 in
theorem CM (S:Src z a w0 q vl vb us vss E)(h:cH z w0 x a (.slice (some ⟨ap,0,none⟩) q.blocks.length q.blocks.length) w un m O)(hR:dG w ap E)(b:Nat)(hb:b<q.blocks.length):
  Calls Tryz.prog 80 #[.pointer (some ⟨x,0,none⟩),.int .i64 (b:Nat)] w fun e w'=>e=.returned (.tuple #[])/\cH z w0 x a (.slice (some ⟨ap,0,none⟩) q.blocks.length q.blocks.length) w' (kE q (q.blocks.getD b []) (E.getD b []) un) m O/\Fr O w O w':=by
 have o8:=h.from.size;have RC:b<E.length:=by rw[S.len];exact hb
 have WJ:(b:Int)<(q.blocks.length:Nat):=by omega
 have hE:=hR.ok RC;have has:=hR.has b RC;have RS:=hR.of b RC;obtain⟨x1,x2⟩:w.cell? ⟨x,0,none⟩=some (.pointer (some ⟨a,0,none⟩))/\w.cell? ⟨x,1,none⟩=some (.slice (some ⟨ap,0,none⟩) q.blocks.length q.blocks.length):=by obtain⟨_,_,_,h⟩:=h;exact⟨h.facts.1,h.facts.2.1⟩
 obtain⟨Z,hZ⟩:∃Z:Array Value,(#[.int .u8 0,.int .u8 0,.int .u8 0,.int .u8 0,.int .u8 0,.int .u8 0,.int .u8 0,.int .u8 0,.int .u8 0,.int .u8 0,.int .u8 0,.int .u8 0,.int .u8 0,.int .u8 0,.int .u8 0,.int .u8 0,.int .u8 0,.int .u8 0,.int .u8 0,.int .u8 0,.int .u8 0,.int .u8 0,.int .u8 0,.int .u8 0]:Array Value)=Z:=⟨_,rfl⟩;have HZ:Hid (Z=(aj au).toArray):=hZ.symm;obtain⟨W2,tB⟩:∃W2,w.alloc (.cells Z 209)=W2:=⟨_,rfl⟩;have bH:Below w.heap.size w W2:=by rw[<-tB];exact(Below.refl _ _).alloc (jC _) _
 have y8:av W2 w.heap.size au:=by rw[<-tB,HZ.out];exact av.new w (by decide)
 have gy:=av.room y8;have qL:=iu hE.len;obtain⟨V,hV⟩:∃V,W2.setCells w.heap.size 0 (aj (E.getD b []))=V:=⟨_,rfl⟩;have OG:av V w.heap.size (E.getD b []):=by rw[<-hV];exact av.store y8 hE.len
 have Ui:Below w.heap.size w V:=by rw[<-hV];exact bp bH (jC _) _ _
 have QM:=h.below Ui;have Vl:Fr O w O V:=Fr.of Ui;have Vo:¬O w.heap.size:=h.fresh (jC _);have SV:=S.below QM.from;generalize E.getD b []=e0 at*;obtain⟨gb,cb,adk,ck,rfl,B8,B9,aX,Kd⟩:=fZ SV.prog b hb;obtain⟨p0,p1,-,-⟩:=gS.facts SV.prog;obtain⟨y1,-⟩:=QM.zero;have HB:Hid (dD z w0 (.slice adk (q.blocks.getD b []).length ck) (q.blocks.getD b []) (vss.getD b [])):=by
  have h1:=S.prog.each b hb;rw[Kd]at h1;exact h1
 have qU:∀l∈q.blocks.getD b [],fY q.locals.length q.blocks.length l:=S.ok.lines _ (by simp[hb]);have qS:=S.long b;clear Kd;generalize q.blocks.getD b []=aM at*;generalize vss.getD b []=vsj at*;go_enter Tryz.func80,Tryz.ntmps80
 go_upto_region 1 with fail
 clear tB hV has RS x1 x2 gy qL bH y8 Ui hR;go_wp2
 go_loopg [28] (aM.length) (fun g v28 wr=>∃(k:Nat),k<=aM.length/\g+k=aM.length/\v28=.int .i64 k/\cH z w0 x a (.slice (some ⟨ap,0,none⟩) q.blocks.length q.blocks.length) wr (kE q (aM.take k) e0 un) m O/\av wr w.heap.size (gD q (aM.take k) e0)/\Fr O w O wr)
 case atStart=>exact⟨0,jQ _,rfl,rfl,QM,OG,Vl⟩
 case round=>
  obtain⟨k,hk,Ca,rfl,ll,xR,J4⟩:=hrel;obtain⟨wo,hwo⟩:∃wo:World,wo=wr:=⟨_,rfl⟩;subst hwo;clear QM OG Vl aX p0 p1 y1;by_cases bg:k<aM.length
  ·obtain⟨gl,apl,cp,an,cn,rfl,-,AH,sf,k0,k1,k2,k3,k4,k5,Ii⟩:=lA HB.out k bg;have hl:=qU (aM.getD k ab.nil) (by simp[bg]);have Bb:=vr q (aM.take k) hE;have HI:Hid (kE q (aM.take (k+1)) e0 un=gO (aL q (aM.getD k ab.nil) (gD q (aM.take k) e0)) (aW q (aM.getD k ab.nil)) (kE q (aM.take k) e0 un)):=by
    unfold Hid;rw[gR bg ab.nil,Eh]
   have HT:Hid (gD q (aM.take (k+1)) e0=aq q (aM.getD k ab.nil) (gD q (aM.take k) e0)):=by unfold Hid;rw[gR bg ab.nil,pY]
   have c0:=(ll.from.cell (p:=⟨gl,k*6,none⟩) sf).trans k0;have c1:=(ll.from.cell (p:=⟨gl,k*6+1,none⟩) sf).trans k1;have c2:=(ll.from.cell (p:=⟨gl,k*6+2,none⟩) sf).trans k2;have c3:=(ll.from.cell (p:=⟨gl,k*6+3,none⟩) sf).trans k3;have c4:=(ll.from.cell (p:=⟨gl,k*6+4,none⟩) sf).trans k4;have c5:=(ll.from.cell (p:=⟨gl,k*6+5,none⟩) sf).trans k5;clear k0 k1 k2 k3 k4 k5;have NO:(k:Int)<aM.length:=by omega
   generalize aM.getD k ab.nil=l at*;generalize gD q (aM.take k) e0=t at*;generalize kE q (aM.take k) e0 un=uk at*;have lW:Below wo.heap.size wo (wo.alloc (.cells #[.int .i64 (l.num:Nat),.int .i64 (l.op:Nat),.slice apl l.places.length cp,.int .i64 l.number,.int .i64 l.flag,.slice an l.next.length cn] 115)):=(Below.refl _ _).alloc (jC _) _;have AL:(wo.alloc (.cells #[.int .i64 (l.num:Nat),.int .i64 (l.op:Nat),.slice apl l.places.length cp,.int .i64 l.number,.int .i64 l.flag,.slice an l.next.length cn] 115)).heap[wo.heap.size]?=some (.cells #[.int .i64 (l.num:Nat),.int .i64 (l.op:Nat),.slice apl l.places.length cp,.int .i64 l.number,.int .i64 l.flag,.slice an l.next.length cn] 115 (0,0)):=jD;have hsL:(wo.alloc (.cells #[.int .i64 (l.num:Nat),.int .i64 (l.op:Nat),.slice apl l.places.length cp,.int .i64 l.number,.int .i64 l.flag,.slice an l.next.length cn] 115)).heap.size=wo.heap.size+1:=by simp
   go_upto_region 4 with fail
   generalize (wo.alloc (.cells #[.int .i64 (l.num:Nat),.int .i64 (l.op:Nat),.slice apl l.places.length cp,.int .i64 l.number,.int .i64 l.flag,.slice an l.next.length cn] 115))=WL at*;have YM:=ll.below lW;have G0:=xR.below lW xR.lt;have ZQ:¬O wo.heap.size:=ll.fresh (jC _);have Ws:¬O (wo.heap.size+1):=ll.fresh (by omega);have YL:=J4.trans (Fr.of lW);have t0:=av.has G0;have o0:=av.of G0;obtain⟨A2,y8⟩:∃A2,WL.alloc (.cells Z 209)=A2:=⟨_,rfl⟩;have bH:Below WL.heap.size WL A2:=by rw[<-y8];exact(Below.refl _ _).alloc (jC _) _
   have ZY:av A2 (wo.heap.size+1) au:=by rw[<-y8,<-hsL,HZ.out];exact av.new WL (by decide)
   have gy:=av.room ZY;have qL:=iu Bb.len;obtain⟨A3,OD⟩:∃A3,A2.setCells (wo.heap.size+1) 0 (aj t)=A3:=⟨_,rfl⟩;have GZ:av A3 (wo.heap.size+1) t:=by rw[<-OD];exact av.store ZY Bb.len
   have cT:Below WL.heap.size WL A3:=by rw[<-OD];exact bp bH (by omega) _ _
   have T6:=YM.below cT;have Ph:=G0.below cT G0.lt;have zf:=(cT.block wo.heap.size (lt_of_heap AL)).trans AL;have hF3:=YL.trans (Fr.of cT);have Vr:w.heap.size<wo.heap.size:=xR.lt;clear ll xR J4 lW c0 c1 c2 c3 c4 c5 YM AL YL;go_upto_region 5 with fail
   clear y8 OD gy qL ZY t0 o0 G0 bH cT;have hsk:=mS q l Bb;go_cut [] (fun wc=>cH z w0 x a (.slice (some ⟨ap,0,none⟩) q.blocks.length q.blocks.length) wc uk m O/\av wc w.heap.size t/\av wc (wo.heap.size+1) (aL q l t)/\wc.heap[wo.heap.size]?=some (.cells #[.int .i64 (l.num:Nat),.int .i64 (l.op:Nat),.slice apl l.places.length cp,.int .i64 l.number,.int .i64 l.flag,.slice an l.next.length cn] 115 (0,0))/\Fr O w O wc)
   case first=>
    have lX:Below A3.heap.size A3 A3.drew:=⟨rfl,rfl,rfl,jC _,fun _ _=>rfl⟩;have xQ:=T6.below lX;obtain⟨x0,-⟩:=T6.zero;have l0:=(cell_of_heap zf 0).trans (by rfl:_=some (Value.int .i64 (l.num:Nat)));have l1:=(cell_of_heap zf 1).trans (by rfl:_=some (Value.int .i64 (l.op:Nat)));have l2:=(cell_of_heap zf 2).trans (by rfl:_=some (Value.slice apl l.places.length cp));have l3:=(cell_of_heap zf 3).trans (by rfl:_=some (Value.int .i64 l.number));have l4:=(cell_of_heap zf 4).trans (by rfl:_=some (Value.int .i64 l.flag));have l5:=(cell_of_heap zf 5).trans (by rfl:_=some (Value.slice an l.next.length cn));have Ta:av A3.drew (wo.heap.size+1) t:=GZ;have KT:=vC q l q.blocks.length z a (wo.heap.size+1) vl _ apl an cp cn t A3.drew (S.pq.below xQ.from) S.mc hl (Ii.below xQ.from) Ta;have RO:=lt_of_heap zf;have Dg:=Ph.lt;have Y6:=Vr;go_region_with (go_at_call 125;refine KT.mono ?_;rintro e w1 ⟨rfl,ju,lU⟩)
    all_goals go_wp2_with fail
    all_goals
     go_meet
     case rel=>exact⟨xQ.fX Ta Ws (by omega) lU,av.qd (show av A3.drew w.heap.size t from Ph) lU (by omega),ju,(lU.block wo.heap.size RO (by omega)).trans zf,(hF3.trans (Fr.of lX)).fX lU (by omega)⟩
   case rest=>
    obtain⟨Rs,Vq,ZH,RW,hF4⟩:=hcut;clear T6 GZ Ph zf hF3;obtain⟨x0,x1⟩:=Rs.zero;have l0:=(cell_of_heap RW 0).trans (by rfl:_=some (Value.int .i64 (l.num:Nat)));have l1:=(cell_of_heap RW 1).trans (by rfl:_=some (Value.int .i64 (l.op:Nat)));have l2:=(cell_of_heap RW 2).trans (by rfl:_=some (Value.slice apl l.places.length cp));have l3:=(cell_of_heap RW 3).trans (by rfl:_=some (Value.int .i64 l.number));have l4:=(cell_of_heap RW 4).trans (by rfl:_=some (Value.int .i64 l.flag));have l5:=(cell_of_heap RW 5).trans (by rfl:_=some (Value.slice an l.next.length cn));have KF:=B1 N6 x0 x1 (S.pq.below Rs.from) S.some S.mc (Ii.below Rs.from) hl;obtain⟨YX,lf⟩:=mo hl S.mc;generalize aW q l=fr at*;generalize aL q l t=tk at*;go_wp2_with (go_at_call 126;refine KF.mono ?_;rintro e WF ⟨ad,c,rfl,hP,Vv⟩)
    have hMF:=Rs.below Vv;have hSF:=Vq.below Vv Vq.lt;have hKF:=ZH.below Vv ZH.lt;have hrF:=(Vv.block wo.heap.size (lt_of_heap RW)).trans RW;have hFF:=hF4.trans (Fr.of Vv);have hPO:∀g,(Value.slice ad fr.length c).ownBlock=some g->¬O g:=fun g hg=>Rs.fresh (hP.lt g hg).1
    clear KF l0 l1 l2 l3 l4 l5 x0 x1 Rs Vq ZH RW hF4 Vv;go_loopg [43] (fr.length) (fun g v43 wr=>∃(j:Nat),j<=fr.length/\g+j=fr.length/\v43=.int .i64 j/\cH z w0 x a (.slice (some ⟨ap,0,none⟩) q.blocks.length q.blocks.length) wr (gO tk (fr.take j) uk) m O/\Fr O WF O wr)
    case atStart=>exact⟨0,jQ _,rfl,rfl,hMF,Fr.refl _ _⟩
    case round=>
     obtain⟨j,hj,hgj,rfl,Wl,S6⟩:=hrel;by_cases DZ:j<fr.length
     ·have hPi:aI _ wr (.slice ad fr.length c) fr:=vq hP S6 hPO;obtain⟨gp,rfl,-,gP,G4,d1,d2⟩:=bK hPi j DZ;have j6:=YX (fr.getD j (0,0)) (by simp[DZ]);have HS:Hid (gO tk (fr.take (j+1)) uk=if cg (tk.getD (ae (fr.getD j (0,0))) 0)=true then(gO tk (fr.take j) uk).set (ae (fr.getD j (0,0))) true else gO tk (fr.take j) uk):=by
       unfold Hid;rw[gR DZ (0,0),Hk]
      generalize fr.getD j (0,0)=p at*;generalize gO tk (fr.take j) uk=uj at*;have hji:(j:Int)<fr.length:=by omega
      have lH:ae p<24:=by unfold ae;split<;>omega
      have NR:(ae p:Int)<24:=by omega
      have ZJ:=av.fr hKF S6 Ws;have aF:Below wr.heap.size wr (wr.alloc (.cells #[.int .i64 (p.1:Nat),.int .i64 (p.2:Nat)] 119)):=(Below.refl _ _).alloc (jC _) _;have X1:(wr.alloc (.cells #[.int .i64 (p.1:Nat),.int .i64 (p.2:Nat)] 119)).heap[wr.heap.size]?=some (.cells #[.int .i64 (p.1:Nat),.int .i64 (p.2:Nat)] 119 (0,0)):=jD;go_upto_region 9 with fail
      generalize (wr.alloc (.cells #[.int .i64 (p.1:Nat),.int .i64 (p.2:Nat)] 119))=A1 at*;have ZI:=ZJ.below aF ZJ.lt;have t0:=av.has ZI;have o0:=av.of ZI;have p0:A1.cell? ⟨wr.heap.size,0,none⟩=some (.int .i64 (p.1:Nat)):=by rw[cell_of_heap X1];rfl
      have p1:A1.cell? ⟨wr.heap.size,1,none⟩=some (.int .i64 (p.2:Nat)):=by rw[cell_of_heap X1];rfl
      have KU:=oB tk hsk p j6 A1;have Vm:=Wl.below aF;have ZF:=S6.trans (Fr.of aF);clear Wl S6 hPi d1 d2 aF ZJ;cases hu:cg (tk.getD (ae p) 0)with
      |true=>
       rw[hu]at KU;have Zi:Hid (gO tk (fr.take (j+1)) uk=uj.set (ae p) true):=HS.out.trans (jb hu);clear HS hu;go_upto_region 10 with(go_at_call 127;refine KU.mono ?_;rintro e w5 ⟨rfl,fM⟩)
       have hM5:=Vm.below fM;have hF5:=ZF.trans (Fr.of fM);have L8:=(fM.block wr.heap.size (lt_of_heap X1)).trans X1;have q0:w5.cell? ⟨wr.heap.size,0,none⟩=some (.int .i64 (p.1:Nat)):=by rw[cell_of_heap L8];rfl
       have q1:w5.cell? ⟨wr.heap.size,1,none⟩=some (.int .i64 (p.2:Nat)):=by rw[cell_of_heap L8];rfl
       clear KU t0 o0 p0 p1 Vm ZF X1 ZI;have lX:Below w5.heap.size w5 w5.drew:=⟨rfl,rfl,rfl,jC _,fun _ _=>rfl⟩;have xQ:=hM5.below lX;have KS:=dc p w5.drew (by omega);go_region_with (go_at_call 62;refine KS.mono ?_;rintro e w6 ⟨rfl,ot⟩;have ZL:=xQ.below ot;obtain⟨u1,u2⟩:=ZL.U8 lH)
       all_goals go_wp2_with fail
       all_goals
        go_roundg (fr.length-(j+1))
        case measure=>omega
        case rel=>exact⟨j+1,by omega,by omega,by go_num,by rw[Zi.out];exact(ZL.Kz lH true).1,hF5.trans ((Fr.of lX).trans ((Fr.of ot).trans (ZL.Kz lH true).2))⟩
      |false=>
       rw[hu]at KU;have Zi:Hid (gO tk (fr.take (j+1)) uk=uj):=HS.out.trans (ja (by rw[hu];decide));clear HS hu;go_wp2_with (go_at_call 127;refine KU.mono ?_;rintro e w5 ⟨rfl,fM⟩)
       go_roundg (fr.length-(j+1))
       case measure=>omega
       case rel=>exact⟨j+1,by omega,by omega,by go_num,by rw[Zi.out];exact Vm.below fM,ZF.trans (Fr.of fM)⟩
     ·have xW:j=fr.length:=by omega
      subst xW;rw[List.take_length]at Wl;have hSi:=av.fr hSF S6 Vo;have RX:=(S6.block wo.heap.size (lt_of_heap hrF) ZQ).trans hrF;have hFz:=hFF.trans S6;clear hMF hSF hKF hrF hFF hPO hP S6;go_upto_region 12 with fail
      have lX:Below wr.heap.size wr wr.drew:=⟨rfl,rfl,rfl,jC _,fun _ _=>rfl⟩;have xQ:=Wl.below lX;have Ta:av wr.drew w.heap.size t:=hSi;obtain⟨x0,-⟩:=Wl.zero;have l0:=(cell_of_heap RX 0).trans (by rfl:_=some (Value.int .i64 (l.num:Nat)));have l1:=(cell_of_heap RX 1).trans (by rfl:_=some (Value.int .i64 (l.op:Nat)));have l2:=(cell_of_heap RX 2).trans (by rfl:_=some (Value.slice apl l.places.length cp));have l3:=(cell_of_heap RX 3).trans (by rfl:_=some (Value.int .i64 l.number));have l4:=(cell_of_heap RX 4).trans (by rfl:_=some (Value.int .i64 l.flag));have l5:=(cell_of_heap RX 5).trans (by rfl:_=some (Value.slice an l.next.length cn));have KP:=pZ q l q.blocks.length z a w.heap.size vl _ apl an cp cn t wr.drew (S.pq.below xQ.from) S.mc hl (Ii.below xQ.from) Ta Bb.lt;go_region_with (go_at_call 128;refine KP.mono ?_;rintro e w3 ⟨rfl,GZ,A0⟩)
      all_goals go_wp2_with fail
      all_goals
       go_roundg (aM.length-(k+1))
       case measure=>omega
       case rel=>exact⟨k+1,by omega,by omega,by go_num,by rw[HI.out];exact xQ.fX Ta Vo (by omega) A0,by rw[HT.out];exact GZ,(hFz.trans (Fr.of lX)).fX A0 (jC _)⟩
  ·have mY:k=aM.length:=by omega
   subst mY;rw[List.take_length]at ll;go_wp2
   go_end0
   exact⟨rfl,ll,J4⟩
end
end El
namespace El
open Go Go.RowKit Sq Aux Go.Proofs.YtmlgajhhnojdjaaGreatDoor.Own PrjF PrjG PrjJ PrjK PrjL PrjM PrjO PrjP PrjQ PrjS PrjT PrjU FlwA FlwB FlwE FlwF FlwG FlwI FlwJ FlwK FlwL FlwM FlwN FlwO FlwP FlwQ FlwR
section
variable {z a:Nat} {w:World} {q:QP} {vl vb:Value} {us:List Value} {vss:List (List (Value×Value))}
set_option maxRecDepth 20000 in
theorem Ez (h:gS z a w q vl vb us vss)(h0:0<q.blocks.length)(hn:q.blocks.length<=4000)(bU:q.locals.length<=12)(hq:AE q.blocks.length q)(dp:∀j,(q.blocks.getD j []).length<=4000)
  (I:List (List Nat)->(Nat->Bool)->Prop) (C9:I (dR (List.replicate q.blocks.length au) 0 aT) (fR (List.replicate q.blocks.length au) (fun _=>false) 0 aT))
  (hI:∀E O b,AP E->E.length=q.blocks.length->b<q.blocks.length->O b=true->I E O->I (eW q E (cI O b false) b).2.1 (eW q E (cI O b false) b).2.2):
  Calls Tryz.prog 79 #[.pointer (some ⟨a,0,none⟩)] w fun e w'=>∃ap E',e=.returned (.slice (some ⟨ap,0,none⟩) q.blocks.length q.blocks.length)/\dG w' ap E'/\E'.length=q.blocks.length/\I E' (fun _=>false)/\w.heap.size<=ap/\Below w.heap.size w w':=by
 have lf:∀(p ad mb:Option _) (l c:Nat) (W:World),Sem.run Tryz.prog (Instr.field 165 (.agg #[.pointer p,.slice ad l c,.map mb]) 1) W=.ok (.slice ad l c) W:=fun p ad mb l c W=>by kernel_rfl
 have KW:=AB h h0 hn bU hq dp I C9 hI;go_enter Tryz.func79,Tryz.ntmps79
 go_wp2_with (go_at_call 90;refine KW.mono ?_;rintro e w1 ⟨ap,mb,E',O',rfl,hP,hl,hR,hO,NG,hOf,NI,RR,hB⟩)
 go_ret
 have hOO:O'=fun _=>false:=funext hOf
 rw[hOO]at NG;exact⟨ap,E',rfl,hR,hl,NG,NI,hB⟩
end
end El
namespace Aux
open Go
def Zs (P:Program)(c:Code)(Q:Exit->Act->World->Prop):Exit->Act->World->Prop
 | .goto l,a,w=>∃r,findLabel c l=some r/\r.wp P (Exit.noGoto Q) a w
 |e,a,w=>Q e a w
section
variable {P:Program} {a:Act} {w:World} {Q:Exit->Act->World->Prop} {c:Code}
theorem GS (h:c.wp P (Zs P c Q) a w):(Code.scope c).wp P Q a w:=by
 intro b k cs;obtain⟨e,a₁,w₁,hq,xT⟩:=h b (.inScope c::k) cs;cases e with
 |normal=>exact⟨.normal,a₁,w₁,hq,.head step_scope (Steps.trans xT (.one step_inScope))⟩
 |exit id=>exact⟨.exit id,a₁,w₁,hq,fun k' hk=> .head step_scope (xT k' (by simp[exitTo,hk]))⟩
 |goto l=>
  obtain⟨r,hf,hr⟩:=hq;have hg:gotoIn l (.inScope c::k)=some (.code r:: .inScope c::k):=by simp[gotoIn,hf]
  obtain⟨e₂,a₂,w₂,hq₂,xT₂⟩:=hr b (.inScope c::k) cs;have h1:=xT _ hg;cases e₂ with
  |normal=>exact⟨.normal,a₂,w₂,hq₂,.head step_scope (Steps.trans h1 (Steps.trans xT₂ (.one step_inScope)))⟩
  |exit id=>exact⟨.exit id,a₂,w₂,hq₂,fun k' hk=> .head step_scope (Steps.trans h1 (xT₂ k' (by simp[exitTo,hk])))⟩
  |goto l'=>exact hq₂.elim
  |ret=>exact⟨_,a₂,w₂,hq₂,.of_steps (.head step_scope h1) xT₂⟩
  |panic ch=>exact⟨_,a₂,w₂,hq₂,.of_steps (.head step_scope h1) xT₂⟩
  |outgrown=>exact⟨_,a₂,w₂,hq₂,.of_steps (.head step_scope h1) xT₂⟩
 |ret=>exact⟨_,a₁,w₁,hq,.of_steps (.one step_scope) xT⟩
 |panic ch=>exact⟨_,a₁,w₁,hq,.of_steps (.one step_scope) xT⟩
 |outgrown=>exact⟨_,a₁,w₁,hq,.of_steps (.one step_scope) xT⟩
def vc (J:Nat->Act->World->Prop)(Q:Exit->Act->World->Prop):Exit->Act->World->Prop
 | .goto l,a,w=>J l a w
 |e,a,w=>Q e a w
theorem qX {J:Nat->Act->World->Prop}:vc J Q .normal a w=Q .normal a w:=rfl
theorem xd {J:Nat->Act->World->Prop}(id:Nat):vc J Q (.exit id) a w=Q (.exit id) a w:=rfl
theorem zr {J:Nat->Act->World->Prop}:vc J Q .ret a w=Q .ret a w:=rfl
theorem sF {J:Nat->Act->World->Prop}(ch:List PanicEntry):vc J Q (.panic ch) a w=Q (.panic ch) a w:=rfl
theorem xe {J:Nat->Act->World->Prop}(l:Nat):vc J Q (.goto l) a w=J l a w:=rfl
theorem xG (h:∀J:Nat->Act->World->Prop,(∀l r a w,findLabel c l=some r->r.wp P (Exit.noGoto Q) a w->J l a w)->c.wp P (vc J Q) a w):(Code.scope c).wp P Q a w:=by
 refine GS ?_;have:=h (fun l a w=>∃r,findLabel c l=some r/\r.wp P (Exit.noGoto Q) a w) (fun l r a w h1 h2=>⟨r,h1,h2⟩);refine Code.wp_mono (fun e a w he=> ?_) this;cases e<;>exact he
end
end Aux
end Go.Proofs.YtmlgajhhnojdjaaGreatDoor

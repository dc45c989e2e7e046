import Derived.Test.YtmlgajhhnojdjaaGreatDoorRBL
import Derived.Test.YtmlgajhhnojdjaaGreatDoorRBN
namespace Go.Proofs.YtmlgajhhnojdjaaGreatDoor
namespace Bal
open Go Sq Go.Proofs.YtmlgajhhnojdjaaGreatDoor.Own
theorem zO:∀(ws:List B),ws≠[]->(∀b∈ws,b≠[])->Lib.join ws [32]≠[]
 |[],h,_=>absurd rfl h
 |[a],_,h=>by rw[Lib.join_one];exact h a (jM ..)
 |a::b::l,_,_=>by
  have e1:Lib.join (a::b::l) [32]=a++32::Lib.join (b::l) [32]:=by simp[Lib.join,List.intercalate,List.intersperse]
  rw[e1];simp
end Bal
namespace Bal
open Go Sq Aux Go.Proofs.YtmlgajhhnojdjaaGreatDoor.Own RunA RunB PrjS FlwA FlwB FlwC FlwD FlwE FlwF FlwG FlwH FlwS FlwY
def Real (q:QP)(k:Nat):Prop:=∃i,i<q.locals.length/\k∈(QP.ab q (i,0)).map ag
structure gx (q:QP)(hs:List Nat)(o:Own.Own):Prop where
 len:o.boxes.length=24
 y:kG (hs++o.boxes) o.yd
 real:∀k,¬o.boxes.getD k 0=0->Real q k
section
variable {q:QP} {hs:List Nat} {o:Own.Own}
theorem C0 {l:List Nat}{k v n:Nat}(hk:k<l.length)(_hn:1<=n):(l.set k v).count n+(if l.getD k 0=n then 1 else 0)=l.count n+(if v=n then 1 else 0):=by
 rw[List.count_set hk];have e:l.getD k 0=l[k]:=by rw[jA,jB hk];rfl
 rw[e];simp only[beq_iff_eq];split
 ·rename_i h;have:1<=l.count n:=List.count_pos_iff.2 (h▸jL _);omega
 ·omega
theorem rX (h:gx q hs o){p:Nat×Nat}(hp:ag p<24):gx q (o.box p::hs) (o.clear p):=by
 refine⟨by simpa [Own.clear]using h.len,h.y.congr fun n hn=> ?_,fun k hk=>h.real k fun e=>hk ?_⟩
 ·show(o.box p::(hs++o.boxes.set (ag p) 0)).count n=_
  have:=C0 (l:=o.boxes) (k:=ag p) (v:=0) (by rw[h.len];exact hp) hn;rw[ja (show¬0=n by omega)]at this;rw[List.count_cons,List.count_append,List.count_append];simp only[Own.box,beq_iff_eq];omega
 ·show(o.boxes.set (ag p) 0).getD k 0=0
  rw[dz];split
  ·rfl
  ·exact e
theorem BR:∀(ps:List (Nat×Nat)) {hs:List Nat} {o:Own.Own},gx q hs o->(∀p∈ps,ag p<24)->gx q ((Own.take ps o).1++hs) (Own.take ps o).2
 |[],_,_,h,_=>h
 |p::ps,hs,o,h,hp=>by
  rw[Own.take];have:=BR ps (rX h (hp p (jM ..))) (fun x hx=>hp x (jN _ hx));refine⟨this.len,this.y.congr fun n hn=> ?_,this.real⟩;simp only[List.count_append,List.count_cons,List.cons_append];omega
theorem N2 {n:Nat}(h:gx q (n::hs) o):gx q hs (o.eN n):=by
 unfold Own.eN;split
 ·rename_i e;subst e;exact⟨h.len,h.y.congr fun n hn=>by rw[jW,List.count_cons,ja (by simp;omega)];rfl,h.real⟩
 ·rename_i e;exact⟨h.len,kG.free h.y (by omega),h.real⟩
theorem C9:∀(ns:List Nat) {o:Own.Own},gx q (ns++hs) o->gx q hs (Own.fA ns o)
 |[],_,h=>h
 |n::ns,o,h=>by rw[Own.fA];exact C9 ns (N2 h)
theorem oI (ps:List (Nat×Nat))(h:gx q hs o)(hp:∀p∈ps,ag p<24):gx q hs (o.drop ps):=C9 _ (BR ps h hp)
theorem take_zero:∀(ps:List (Nat×Nat)) (o:Own.Own) (k:Nat),k∈ps.map ag\/o.boxes.getD k 0=0->(Own.take ps o).2.boxes.getD k 0=0
 |[],_,_,h=>h.resolve_left (by simp)
 |p::ps,o,k,h=>by
  rw[Own.take];refine take_zero ps (o.clear p) k ?_;by_cases hm:k∈ps.map ag
  ·exact .inl hm
  ·refine .inr ?_;show(o.boxes.set (ag p) 0).getD k 0=0
   rw[dz];split
   ·rfl
   ·rename_i ea;rcases h with h|h
    ·rw[List.map_cons,jP]at h;rcases h with h|h
     ·have:¬k<o.boxes.length:=fun hk=>ea ⟨h.symm,hk⟩
      rw[jA,jG (by omega)];rfl
     ·exact absurd h hm
    ·exact h
theorem drop_zero (ps:List (Nat×Nat))(o:Own.Own){k:Nat}(h:k∈ps.map ag\/o.boxes.getD k 0=0):(o.drop ps).boxes.getD k 0=0:=by
 rw[(ij ps o).2.2.2];exact take_zero ps o k h
theorem IF {p:Nat×Nat}{n:Nat}(h:gx q (n::hs) o)(hp:ag p<24)(hz:o.boxes.getD (ag p) 0=0)(hr:Real q (ag p)):gx q hs (o.sy p n):=by
 refine⟨by simpa [Own.sy]using h.len,h.y.congr fun m hm=> ?_,fun k hk=> ?_⟩
 ·show(hs++o.boxes.set (ag p) n).count m=(n::hs++o.boxes).count m
  have:=C0 (l:=o.boxes) (k:=ag p) (v:=n) (by rw[h.len];exact hp) hm;rw[hz,ja (show¬0=m by omega)]at this;rw[jW,List.count_cons,List.count_append,List.count_append];simp only[beq_iff_eq];omega
 ·by_cases e:ag p=k
  ·exact e▸hr
  ·refine h.real k fun e2=>hk ?_
   show(o.boxes.set (ag p) n).getD k 0=0
   rw[dz,ja (fun x=>e x.1)];exact e2
theorem IG:∀(ps:List (Nat×Nat)) (ns:List Nat) {o:Own.Own},ps.length=ns.length->(ps.map ag).Nodup->(∀p∈ps,ag p<24/\o.boxes.getD (ag p) 0=0/\Real q (ag p))->gx q (ns++hs) o->gx q hs (Own.o6 ps ns o)
 |[],[],_,_,_,_,h=>h
 |[],_::_,_,hl,_,_,_=>by cases hl
 |_::_,[],_,hl,_,_,_=>by cases hl
 |p::ps,n::ns,o,hl,hd,hp,h=>by
  rw[Own.o6];obtain⟨h1,h2,h3⟩:=hp p (jM ..);rw[List.map_cons,List.nodup_cons]at hd;refine IG ps ns (o:=o.sy p n) (by simpa using hl) hd.2 (fun x hx=> ?_) (IF h h1 h2 h3);obtain⟨g1,g2,g3⟩:=hp x (jN _ hx);refine⟨g1,?_,g3⟩;show(o.boxes.set (ag p) n).getD (ag x) 0=0
  rw[dz,ja (fun e=>hd.1 (List.mem_map.2 ⟨x,hx,e.1.symm⟩))];exact g2
theorem Ic (ts frm:List (Nat×Nat))(h:gx q [] o)(hl:ts.length=frm.length)(hd:(ts.map ag).Nodup)(hf:∀p∈frm,ag p<24)(ht:∀p∈ts,ag p<24/\Real q (ag p)):gx q [] (o.move ts frm):=by
 unfold Own.move;refine IG ts _ (by rw[Go.Proofs.YtmlgajhhnojdjaaGreatDoor.Own.take_len];exact hl) hd (fun p hp=>⟨(ht p hp).1,drop_zero ts _ (.inl (List.mem_map.2 ⟨p,hp,rfl⟩)),(ht p hp).2⟩) ?_;exact oI ts (BR frm h hf) (fun p hp=>(ht p hp).1)
theorem Vp {p:Nat×Nat}(h:gx q [] o)(hp:ag p<24)(hr:Real q (ag p))(v:Int):gx q [] ((o.drop [p]).new p v):=by
 have h1:=oI [p] h (fun x hx=>by rw[jI.1 hx];exact hp);have hz:=drop_zero [p] o (k:=ag p) (.inl (by simp));have h2:gx q [(o.drop [p]).yd.made.length+1] {o.drop [p]with yd:=(o.drop [p]).yd.build v}:=⟨h1.len,kG.build h1.y v,h1.real⟩;exact IF h2 hp hz hr
theorem PK (q:QP)(ak:List Int):gx q [] (Own.start ak):=by
 have hz:∀k,(Own.start ak).boxes.getD k 0=0:=fun k=>by
  show(List.replicate 24 0).getD k 0=0
  rw[jA,jO];split<;>rfl
 refine⟨by simp[Own.start],⟨fun _=>rfl,fun n hn=> ?_,rfl,fun b hb=>by cases hb⟩,fun k hk=>absurd (hz k) hk⟩;show(List.replicate 24 0).count n=0
 rw[List.count_eq_zero];intro hm;have:=List.eq_of_mem_replicate hm;omega
theorem Fa {x:Nat×Nat}(hx:x.1<12):ag x<24:=by unfold ag;split<;>omega
theorem EY {x:Nat×Nat}{c:UInt8}(hx:x.1<q.locals.length)(h3:x.2<=3)(hk:q.bJ x c=true):∀p∈QP.ab q x,Real q (ag p):=fun p hp=>by
 refine⟨x.1,hx,?_⟩;obtain⟨i,t⟩:=x;unfold QP.bJ QP.kind at hk;simp only at hx h3 hk⊢;have ht:t=0\/t=1\/t=2\/t=3:=by omega
 rcases ht with rfl|rfl|rfl|rfl
 ·exact List.mem_map.2 ⟨p,hp,rfl⟩
 ·have h2:q.bA i=2:=by
   by_cases e:q.bA i=2
   ·exact e
   ·simp[e]at hk
  rcases bH q (i,1)with⟨e,-⟩|⟨-,e,-⟩
  ·rw[e,jI]at hp;subst hp;unfold QP.ab;rw[jb ⟨rfl,h2⟩];simp
  ·cases e
 ·have h2:q.bA i=2:=by
   by_cases e:q.bA i=2
   ·exact e
   ·simp[e]at hk
  rcases bH q (i,2)with⟨e,-⟩|⟨-,e,-⟩
  ·rw[e,jI]at hp;subst hp;unfold QP.ab;rw[jb ⟨rfl,h2⟩];simp
  ·cases e
 ·have h2:q.bA i=3:=by
   by_cases e:q.bA i=3
   ·exact e
   ·simp[e]at hk
  rcases bH q (i,3)with⟨e,-⟩|⟨-,e,-⟩
  ·rw[e,jI]at hp;subst hp;unfold QP.ab;rw[ja (by simp;omega)];simp[ag]
  ·cases e
variable {l:aa}
theorem cC (cf:q.locals.length<=12){x:Nat×Nat}(hx:x.1<q.locals.length):∀p∈QP.ab q x,ag p<24:=fun p hp=>by
 rcases bH q x with⟨e,-⟩|⟨e,-⟩<;>rw[e]at hp<;>simp at hp
 ·rw[hp];exact Fa (by omega)
 ·rcases hp with rfl|rfl<;>exact Fa (by simp;omega)
theorem vy (q:QP)(x:Nat×Nat):((QP.ab q x).map ag).Nodup:=by
 rcases bH q x with⟨e,-⟩|⟨e,-⟩<;>rw[e]
 ·simp
 ·simp[ag]
theorem MD {p:Nat×Nat}(h:1<=o.box p):o.box p∈[]++o.boxes:=by
 unfold Own.box at*;rw[List.nil_append];rcases Nat.lt_or_ge (ag p) o.boxes.length with h1|h1
 ·rw[jA,jB h1];exact jL _
 ·rw[jA,jG h1]at h;exact absurd h (by decide)
theorem Sh (cf:q.locals.length<=12)(hl:kH q l)(FD:km l.op)(hn:o.bD l=true)(h:gx q [] o):gx q [] (o.fy q l):=by
 have hints:∀v,gx q [] {o with ints:=v}:=fun v=>⟨h.len,h.y,h.real⟩
 rcases FD with e|e|e|e|e|e|e|e|e|e|e|e
 ·rw[Own.fy,jb e];exact⟨h.len,h.y,h.real⟩
 ·rw[Own.fy,ja (by omega),jb (by omega)];exact⟨h.len,h.y,h.real⟩
 ·rw[Own.fy,ja (by omega),jb (by omega)];exact⟨h.len,h.y,h.real⟩
 ·rw[Own.fy,ja (by omega),jb (by omega)];exact⟨h.len,h.y,h.real⟩
 ·rw[Own.fy,ja (by omega),ja (by omega),jb (by omega)];exact⟨h.len,h.y,h.real⟩
 ·rw[Own.fy,ja (by omega),ja (by omega),ja (by omega),jb (by omega)];exact⟨h.len,h.y.out _,h.real⟩
 ·rw[Own.bD,jb e]at hn;rw[Own.fy,ja (by omega),ja (by omega),ja (by omega),ja (by omega),jb (by omega)];exact⟨h.len,h.y.load (of_decide_eq_true hn) (MD (of_decide_eq_true hn)),h.real⟩
 ·rw[Own.bD,ja (by omega),jb e]at hn;rw[Own.fy,ja (by omega),ja (by omega),ja (by omega),ja (by omega),ja (by omega),jb (by omega)];exact⟨h.len,h.y.store (of_decide_eq_true hn) (MD (of_decide_eq_true hn)) _,h.real⟩
 ·have hlen:l.places.length=2:=by rw[hl.ok.cP,e];rfl
  have p0:=eo hl (j:=0) (by omega);have p1:=eo hl (j:=1) (by omega);rw[Own.fy,ja (by omega),ja (by omega),ja (by omega),ja (by omega),ja (by omega),ja (by omega),jb (by omega)];exact Ic _ _ h (rp hl e) (vy q _) (cC cf p1.1) (fun p hp=>⟨cC cf p0.1 p hp,EY p0.1 p0.2 (eT hl.fits (j:=0) (by omega)) p hp⟩)
 ·have hlen:l.places.length=1:=by rw[hl.ok.cP,e];rfl
  rw[Own.fy,ja (by omega),ja (by omega),ja (by omega),ja (by omega),ja (by omega),ja (by omega),ja (by omega),jb (by omega)];exact oI _ h (cC cf (eo hl (j:=0) (by omega)).1)
 ·have hlen:l.places.length=2:=by rw[hl.ok.cP,e];rfl
  have p0:=eo hl (j:=0) (by omega);have p1:=eo hl (j:=1) (by omega);obtain⟨e0,e1,-⟩:=ru hl e;rw[Own.fy,ja (by omega),ja (by omega),ja (by omega),ja (by omega),ja (by omega),ja (by omega),jb (by omega)];exact Ic _ _ h (by rw[e0,e1];rfl) (vy q _) (cC cf p1.1) (fun p hp=>⟨cC cf p0.1 p hp,EY p0.1 p0.2 (eT hl.fits (j:=0) (by omega)) p hp⟩)
 ·have hlen:l.places.length=1:=by rw[hl.ok.cP,e];rfl
  rw[Own.fy,ja (by omega),ja (by omega),ja (by omega),ja (by omega),ja (by omega),ja (by omega),ja (by omega),jb (by omega)];exact oI _ h (cC cf (eo hl (j:=0) (by omega)).1)
theorem Q0 (hl:kH q l)(aw:l.op=9):(ah l 0).1<q.locals.length/\∃c,(ah l 0).2<=3/\q.bJ (ah l 0) c=true/\QP.ab q (ah l 0)=[ah l 0]:=by
 have hlen:l.places.length=2:=by rw[hl.ok.cP,aw];rfl
 have p0:=eo hl (j:=0) (by omega);have k0:=eT hl.fits (j:=0) (by omega);refine⟨p0.1,_,p0.2,k0,?_⟩;rw[aw]at k0;have o0:=qW (x:=ah l 0) k0;rcases bH q (ah l 0)with⟨e,-⟩|⟨-,e1,e2⟩
 ·exact e
 ·exact absurd ⟨e1,e2⟩ o0.2.1
theorem lT (cf:q.locals.length<=12):RunB.Steps q (fun s o=>j7 q s o/\gx q [] o) where
 fy:=fun l s o hl FD hs hf h=>by
  obtain⟨h1,h2⟩:=(lY cf).fy l s o hl FD hs hf h.1;exact⟨h1,h2,Sh cf hl FD h1 h.2⟩
 Zi:=fun l s o hl aw hs hf h=>⟨(lY cf).Zi l s o hl aw hs hf h.1,h.2.len,h.2.y,h.2.real⟩
 new:=fun l s o hl aw hs hf h=>by
  obtain⟨h1,c,h2,h3,h4⟩:=Q0 hl aw;refine⟨(lY cf).new l s o hl aw hs hf h.1,Vp h.2 (Fa (by omega)) ?_ _⟩;exact EY h1 h2 h3 _ (by rw[h4];simp)
 term:=fun l s o hl aw hs hf h=>⟨(lY cf).term l s o hl aw hs hf h.1,h.2⟩
 mono:=fun s t o hs ht hle h=>⟨(lY cf).mono s t o hs ht hle h.1,h.2⟩
end
end Bal
namespace RunB
open Go Go.RowKit Sq Aux Go.Proofs.YtmlgajhhnojdjaaGreatDoor.Own RunA PrjG PrjJ PrjK PrjM PrjS FlwZ FlwZa MadE
theorem Gf (w:World):bX w (.slice none 0 0) []:=⟨none,0,rfl,jC _,jQ _,fun _j hj=>absurd hj (Nat.not_lt_zero _)⟩
end RunB
namespace RunB
open Go Go.RowKit Sq Aux Go.Proofs.YtmlgajhhnojdjaaGreatDoor.Own RunA PrjG PrjJ PrjK PrjM PrjS FlwZ FlwZa MadC MadE
theorem FI.form {text:B}{ak:List Int}{fuel room:Int}{v:Value}{c k:Int}(h:FI text ak fuel room v c k):∃(o x:Int) (t:B) (l:Int),v=.agg #[.int .i64 o,.int .i64 x,.string (bs t),.int .i64 l]:=by
 rcases h with⟨-,-,rfl⟩|⟨-,-,rfl,-⟩|⟨-,-,-,q,ans,-,-,rfl⟩
 ·exact⟨0,0,[],0,rfl⟩
 ·exact⟨0,0,[],0,rfl⟩
 ·exact⟨_,_,_,_,rfl⟩
theorem CM (text:B)(vi:Value)(ak:List Int)(fuel room:Int)(w:World)(hf:bX w vi ak)(pG:∀n∈ak,aN n)(h:text.length<=1048576)(E:Env w)(hp:Pow w):
  Calls Tryz.prog 23 #[.string (bs text),vi,.int .i64 fuel,.int .i64 room] w fun e w'=>(∃(o x:Int) (t:B) (l c k:Int),Hid (FI text ak fuel room (.agg #[.int .i64 o,.int .i64 x,.string (bs t),.int .i64 l]) c k)/\e=.returned (.tuple #[.agg #[.int .i64 o,.int .i64 x,.string (bs t),.int .i64 l],.int .i64 c,.int .i64 k]))/\Below w.heap.size w w':=by
 refine(Qn text vi ak fuel room w hf pG h E hp).mono ?_;rintro e w' ⟨⟨v,c,k,hr,rfl⟩,hb⟩;obtain⟨o,x,t,l,rfl⟩:=hr.out.form;exact⟨⟨o,x,t,l,c,k,hr,rfl⟩,hb⟩
theorem Hh {w4 w6:World}{x:Obj}(hb:Below (w4.alloc x).heap.size (w4.alloc x) w6):w6.heap[w4.heap.size]?=some x/\w4.heap.size<w6.heap.size:=by
 have h:(w4.alloc x).heap[w4.heap.size]?=some x:=jD;have hs:=hb.size;have e:(w4.alloc x).heap.size=w4.heap.size+1:=by simp
 exact⟨by rw[hb.block _ (by omega)];exact h,by omega⟩
theorem Hi {w4 w6:World}{x y:Obj}(hb:Below (w4.alloc x).heap.size (w4.alloc x) w6):(w6.alloc y).heap[w4.heap.size]?=some x:=by
 have h:(w4.alloc x).heap[w4.heap.size]?=some x:=jD;have hs:=hb.size;have e:(w4.alloc x).heap.size=w4.heap.size+1:=by simp
 show(w6.heap.push y)[w4.heap.size]?=_
 rw[Array.getElem?_push_lt (by omega)];rw[<-h,<-hb.block _ (by omega),Array.getElem?_eq_getElem (by omega)]
end RunB
end Go.Proofs.YtmlgajhhnojdjaaGreatDoor

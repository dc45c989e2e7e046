import Derived.Test.YtmlgajhhnojdjaaGreatDoorRAJ
namespace Go.Proofs.YtmlgajhhnojdjaaGreatDoor
namespace Aux
open Go Go.RowKit Sq RefR
def aT (w:World)(b:Nat):Prop:=∃s:WS,s.Ok/\aA w b s
def B0 (w:World)(b:Nat):Array Value:=match w.heap[b]? with|some (.cells cs _ _)=>cs|_=> #[]
def df (xs:Array Value):Prop:=∃s:WS,s.Ok/\xs=s.cells.toArray
theorem bt {w:World}{b:Nat}{s:WS}(h:aA w b s):B0 w b=s.cells.toArray:=by
 unfold aA at h;simp[B0,h]
theorem EM (w:World)(b:Nat)(h:aT w b):(loadVar 155 ⟨b,0,none⟩).run Tryz.prog w=.ok (.agg (B0 w b)) w:=by
 obtain⟨s,hs,hw⟩:=h;rw[bt hw];exact run_loadVar_mid w b 0 155 s.cells _ hw.range Tryz.underlying155 rfl (eC hs)
theorem CF (w:World)(b:Nat)(xs:Array Value)(h:aT w b)(hx:df xs):(storeVar 155 ⟨b,0,none⟩ (.agg xs)).run Tryz.prog w=.ok () (w.setCells b 0 xs.toList):=by
 obtain⟨s,hs,hw⟩:=h;obtain⟨t,ht,rfl⟩:=hx;refine run_storeVar_mid w b 0 155 t.cells.toArray ?_ (ou ht) (all_oneCell_toArray (WS.xD t));have:=hw.there hs
 rwa [<-WS.cS ht,<-List.size_toArray]at this
def jx:Value->Nat
 | .pointer (some ad)=>ad.block
 |_=>0
def rO (w:World)(v:Value):Prop:=∃b,v=.pointer (some ⟨b,0,none⟩)/\aT w b
def qB:Value->Array Value
 | .agg xs=>xs
 |_=> #[]
def rJ (v:Value):Prop:=∃xs,v=.agg xs/\df xs
@[simp] theorem lN (ad : Addr) : jx (.pointer (some ad)) = ad.block := rfl
@[simp] theorem WH (w : World) (b : Nat) : rO w (.pointer (some ⟨b, 0, none⟩)) = aT w b := by
 simp[rO]
@[simp] theorem tW (xs : Array Value) : qB (.agg xs) = xs := rfl
@[simp] theorem V2 (xs : Array Value) : rJ (.agg xs) = df xs := by
 simp[rJ]
section
variable (d:Option Tmp) (x y:Operand) (t:TypeId) (ps:String) (af:Array Edge) (g:Option (Nat×Bool)) (a:Act) (w:World) (K:Act->World->Prop) (Q:Exit->Act->World->Prop)
theorem dc (h:rO w (a.eval x)):Oper.wp Tryz.prog {dst:=d,op:=Op.load 155 x,type:=t,pos:=ps,after:=af,guard:=g} a w K Q=K (a.put d (.agg (B0 w (jx (a.eval x))))) w:=by
 obtain⟨b,hb,hh⟩:=h;have:=EM w b hh;unfold Oper.wp execOp;simp only[hb,Instr.loadAt,Instr.sureAddr,Sem.run_bind,Sem.run_pure,Result.andThen_ok,this,lN];rfl
theorem cG (h:rO w (a.eval x))(h':rJ (a.eval y)):Oper.wp Tryz.prog {dst:=d,op:=Op.store 155 x y,type:=t,pos:=ps,after:=af,guard:=g} a w K Q=K (a.put d undef) (w.setCells (jx (a.eval x)) 0 (qB (a.eval y)).toList):=by
 obtain⟨b,hb,hh⟩:=h;obtain⟨xs,hy,hx⟩:=h';have:=CF w b xs hh hx;unfold Oper.wp execOp;simp only[hb,hy,Instr.storeAt,Instr.sureAddr,Sem.run_bind,Sem.run_pure,Result.andThen_ok,this,lN,tW];rfl
end
end Aux
end Go.Proofs.YtmlgajhhnojdjaaGreatDoor

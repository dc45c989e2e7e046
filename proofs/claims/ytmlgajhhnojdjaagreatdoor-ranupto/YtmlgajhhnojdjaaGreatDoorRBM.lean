import Derived.Test.YtmlgajhhnojdjaaGreatDoorRBL
namespace Go.Proofs.YtmlgajhhnojdjaaGreatDoor
namespace Ex
open Go Go.RowKit Sq Aux PrjJ PrjK PrjL PrjM FlwA FlwE Go.Proofs.YtmlgajhhnojdjaaGreatDoor.Own
structure Br where
 yd:Yd
 ak:List Int
 cs:List (Bool×Int)
 flags:List Bool
def Wz (q:QP)(p:Nat×Nat):Bool:=q.br p==3
def cellOf (q:QP)(p:Nat×Nat):Nat:=if Wz q p then 24+p.1 else ag p
def Br.cell (b:Br)(q:QP)(p:Nat×Nat):Bool×Int:=b.cs.getD (cellOf q p) (false,0)
def Br.val (b:Br)(q:QP)(p:Nat×Nat):Int:=(b.cell q p).2
def Br.write (b:Br)(q:QP)(p:Nat×Nat)(v:Int):Br:={b with cs:=b.cs.set (cellOf q p) (true,v)}
section
variable {x a:Nat} {w w0 w1:World} {vm vt vi vm1 vt1:Value} {b:Br}
end
end Ex
namespace Ex
theorem hereExB:True:=trivial
end Ex
namespace Ex
theorem hereExC:True:=trivial
end Ex
namespace Ex
theorem hereExD:True:=trivial
end Ex
namespace Ex
theorem hereExE:True:=trivial
end Ex
namespace Ex
open Go Go.RowKit Sq Aux PrjJ PrjK PrjL PrjM PrjR PrjS PrjT FlwA FlwE Go.Proofs.YtmlgajhhnojdjaaGreatDoor.Own
def Br.cT (q:QP)(ts fs:List (Nat×Nat)):Nat->Br->Br
 |0,b=>b
 |k+1,b=>(Br.cT q ts fs k b).write q (ts.getD k (0,0)) ((Br.cT q ts fs k b).val q (fs.getD k (0,0)))
def Br.M3 (b:Br)(q:QP)(t f:Nat×Nat):Br:=Br.cT q (QP.ab q t) (QP.ab q f) (QP.ab q f).length b
def Br.move (b:Br)(q:QP)(t f:Nat×Nat):Br:=
 if Wz q f=true/\(b.M3 q t f).val q f=1 then(b.M3 q t f).write q (t.1,3) ((b.M3 q t f).val q (f.1,3))else b.M3 q t f
section
variable {x a:Nat} {w w0 w1:World} {vm vt vi v u:Value} {b:Br} {q:QP}
end
end Ex
namespace Ex
theorem hereExG:True:=trivial
end Ex
namespace Ex
theorem hereExH:True:=trivial
end Ex
namespace Ex
open Go Go.RowKit Sq Aux PrjJ PrjK PrjL PrjM PrjR PrjS PrjT FlwA FlwE Go.Proofs.YtmlgajhhnojdjaaGreatDoor.Own
def Br.new (b:Br)(q:QP)(p:Nat×Nat)(v:Int):Br:=({b with yd:=b.yd.build v}:Br).write q p ((b.yd.made.length+1:Nat):Int)
section
variable {x a:Nat} {w w0:World} {vm vt vi v u:Value} {b:Br} {q:QP}
end
end Ex
namespace Ex
theorem hereExJ:True:=trivial
end Ex
namespace Ex
theorem hereExK:True:=trivial
end Ex
namespace Ex
theorem hereExL:True:=trivial
end Ex
namespace Ex
theorem hereExM:True:=trivial
end Ex
namespace Ex
theorem hereExN:True:=trivial
end Ex
namespace Ex
theorem hereExO:True:=trivial
end Ex
namespace Ex
theorem hereExP:True:=trivial
end Ex
end Go.Proofs.YtmlgajhhnojdjaaGreatDoor

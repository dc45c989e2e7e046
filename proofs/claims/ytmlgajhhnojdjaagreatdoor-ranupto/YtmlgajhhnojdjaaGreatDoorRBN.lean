import Derived.Test.YtmlgajhhnojdjaaGreatDoorRBJ
namespace Go.Proofs.YtmlgajhhnojdjaaGreatDoor
namespace MadA
open Go Sq
def Yj (i:Fin 5):B:=match i with
 |0=>[112]|1=>[113]|2=>[120,46,97]|3=>[120,46,98]|4=>[111,46,115]
def Yk (i:Fin 5):Nat×Nat:=match i with
 |0=>(1,0)|1=>(2,0)|2=>(3,1)|3=>(3,2)|4=>(4,3)
inductive ML where
 |new (i:Fin 5)
 |load (i:Fin 5)
 |store (i:Fin 5)
 |move (i k:Fin 5)
 |drop (i:Fin 5)
 |some (k:Fin 5)
def ML.text:ML->B
 |new i=>[110,101,119,32]++Yj i++[32,110]
 |load i=>[108,111,97,100,32,110,32]++Yj i
 |store i=>[115,116,111,114,101,32]++Yj i++[32,110]
 |move i k=>[109,111,118,101,32]++Yj i++([32]++Yj k)
 |drop i=>[100,114,111,112,32]++Yj i
 |some k=>[115,111,109,101,32,111,32]++Yj k
def ML.q (n:Nat):ML->aa
 |new i=>⟨n,9,[Yk i,(0,0)],0,0,[]⟩
 |load i=>⟨n,10,[(0,0),Yk i],0,0,[]⟩
 |store i=>⟨n,11,[Yk i,(0,0)],0,0,[]⟩
 |move i k=>⟨n,12,[Yk i,Yk k],0,0,[]⟩
 |drop i=>⟨n,15,[Yk i],0,0,[]⟩
 |some k=>⟨n,14,[(4,0),Yk k],0,0,[]⟩
instance:DecidableEq aa:=fun x y=>decidable_of_iff (x.num=y.num/\x.op=y.op/\x.places=y.places/\x.number=y.number/\x.flag=y.flag/\x.next=y.next)
 ⟨fun⟨h1,h2,h3,h4,h5,h6⟩=>by cases x;cases y;simp only at h1 h2 h3 h4 h5 h6;subst h1 h2 h3 h4 h5 h6;rfl,fun h=>by subst h;exact⟨rfl,rfl,rfl,rfl,rfl,rfl⟩⟩
end MadA
namespace MadM
open Go Sq MadA
structure MM where
 p:Bool
 q:Bool
 a:Bool
 b:Bool
 o:Fin 3
def MM.has (m:MM)(k:Fin 5):Bool:=match k with|0=>m.p|1=>m.q|2=>m.a|3=>m.b|4=>m.o==1
end MadM
namespace MadB
theorem ZO:True:=trivial
end MadB
namespace MadC
theorem ZP:True:=trivial
end MadC
namespace MadD
theorem ZQ:True:=trivial
end MadD
namespace MadE
theorem ZR:True:=trivial
end MadE
end Go.Proofs.YtmlgajhhnojdjaaGreatDoor

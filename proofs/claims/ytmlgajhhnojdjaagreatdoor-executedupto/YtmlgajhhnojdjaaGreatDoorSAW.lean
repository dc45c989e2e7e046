/- What the document's own ways make of the other lines. Conditions: as for a set. -/
import Derived.Test.YtmlgajhhnojdjaaGreatDoorSAU
import Derived.Test.YtmlgajhhnojdjaaGreatDoorSAV
import Derived.Test.YtmlgajhhnojdjaaGreatDoorSAC
import Derived.Test.YtmlgajhhnojdjaaGreatDoorSAQ
namespace Go.Proofs.YtmlgajhhnojdjaaGreatDoor.RefZb
theorem hereRefZb : True := trivial
end Go.Proofs.YtmlgajhhnojdjaaGreatDoor.RefZb
/- What the document's own ways make of any line of a program. Conditions: the line's form and names are right; the program lies in memory; few letters. -/
namespace Go.Proofs.YtmlgajhhnojdjaaGreatDoor.RefZd
open Go.RowKit Go.Proofs.YtmlgajhhnojdjaaGreatDoor.Spec Go.Proofs.YtmlgajhhnojdjaaGreatDoor.RefT Go.Proofs.YtmlgajhhnojdjaaGreatDoor.RefU Go.Proofs.YtmlgajhhnojdjaaGreatDoor.RefV Go.Proofs.YtmlgajhhnojdjaaGreatDoor.RefW Go.Proofs.YtmlgajhhnojdjaaGreatDoor.RefX Go.Proofs.YtmlgajhhnojdjaaGreatDoor.RefY Go.Proofs.YtmlgajhhnojdjaaGreatDoor.RefZ Go.Proofs.YtmlgajhhnojdjaaGreatDoor.RefZa Go.Proofs.YtmlgajhhnojdjaaGreatDoor.RefZb Go.Proofs.YtmlgajhhnojdjaaGreatDoor.Aux

theorem len_of {raw : Bool} {ws : List B} (h : lineForm raw ws = true) (hl : ¬ word ws 0 = wLet) (hb : ¬ word ws 0 = wBlock) : (behind (word ws 0) raw).2 = true ∧ ws.length = (behind (word ws 0) raw).1.length + 1 := by
  unfold lineForm at h
  rw [if_neg hl, if_neg hb] at h
  simp only [Bool.and_eq_true, decide_eq_true_eq] at h
  exact h.1
end Go.Proofs.YtmlgajhhnojdjaaGreatDoor.RefZd
/- What the document's own ways make of two ways that meet: the first with the second besides. Conditions: each spot has few letters. -/
namespace Go.Proofs.YtmlgajhhnojdjaaGreatDoor.RefZc
theorem hereRefZc : True := trivial
end Go.Proofs.YtmlgajhhnojdjaaGreatDoor.RefZc
/- A drawn region of the document's own Use, by itself: what a line needs is asked once more. -/
namespace Go.Proofs.YtmlgajhhnojdjaaGreatDoor.RefZeR
theorem hereRefZeR : True := trivial
end Go.Proofs.YtmlgajhhnojdjaaGreatDoor.RefZeR
/- A drawn region of the document's own Use, by itself: what a line needs is asked once more. -/
namespace Go.Proofs.YtmlgajhhnojdjaaGreatDoor.RefZeS
theorem hereRefZeS : True := trivial
end Go.Proofs.YtmlgajhhnojdjaaGreatDoor.RefZeS
/- A drawn region of the document's own Use, by itself: what a line needs is asked once more. -/
namespace Go.Proofs.YtmlgajhhnojdjaaGreatDoor.RefZeT
theorem hereRefZeT : True := trivial
end Go.Proofs.YtmlgajhhnojdjaaGreatDoor.RefZeT

/- What the document's own ways make of the other lines. Conditions: as for a set. -/
import Derived.Test.YtmlgajhhnojdjaaGreatDoorSAU
namespace Go.Proofs.YtmlgajhhnojdjaaGreatDoor.RefZa
theorem hereRefZa : True := trivial
end Go.Proofs.YtmlgajhhnojdjaaGreatDoor.RefZa

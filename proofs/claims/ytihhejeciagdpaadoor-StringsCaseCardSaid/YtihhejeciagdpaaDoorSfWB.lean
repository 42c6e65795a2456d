/-
  What the texts of package strfunc import of the shelf at this seat.
-/
import Derived.Test.YtihhejeciagdpaaDoorShelf
namespace Go.Proofs.YtihhejeciagdpaaDoor.Sf
end Go.Proofs.YtihhejeciagdpaaDoor.Sf

/-
  The contracts of Add, Sub and Mul of the reference of chapter 6.
-/
import Derived.Test.YtfocokjihbenmaaDoorNuAdd0
import Derived.Test.YtfocokjihbenmaaDoorNuForm
namespace Go.Proofs.YtfocokjihbenmaaDoor.Nu
open Go.RowKit

end Go.Proofs.YtfocokjihbenmaaDoor.Nu

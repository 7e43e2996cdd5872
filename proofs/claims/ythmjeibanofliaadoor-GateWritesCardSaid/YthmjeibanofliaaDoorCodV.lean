/-
  The program's Reader: Text and Label. Conditions: how the Reader lies, what the package-level variables hold, a text's length.
-/
import Derived.Test.YthmjeibanofliaaDoorCodU
namespace Go.Proofs.YthmjeibanofliaaDoor
open Go.RowKit
section
variable {w : World} {R : Nat} {s : ByteArray} {b : Bool}
end
end Go.Proofs.YthmjeibanofliaaDoor

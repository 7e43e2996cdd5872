/-
  The program's Reader: Text and Label. Conditions: how the Reader lies, what the package-level variables hold, a text's length.
-/
import Derived.Test.YtbenehdikigbaaaDoorCodU
namespace Go.Proofs.YtbenehdikigbaaaDoor
open Go.RowKit
section
variable {w : World} {R : Nat} {s : ByteArray} {b : Bool}
end
end Go.Proofs.YtbenehdikigbaaaDoor

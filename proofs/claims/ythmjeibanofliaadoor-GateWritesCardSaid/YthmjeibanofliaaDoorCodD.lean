/-
  What the document's Reader.Int of one that has met something wrong, and its Reader.Text (package lockageref06), answer and leave. No conditions but how the reader lies, and a text's length.
-/
import Derived.Test.YthmjeibanofliaaDoorCodC
namespace Go.Proofs.YthmjeibanofliaaDoor
open Go.RowKit

section
variable {w : World} {R : Nat} {S : ByteArray}
/-- What a Text answers, what it leaves, and whether something is wrong then. -/
def rtT (r : Option (Int × List UInt8)) : ByteArray := match r with | some (n, x) => if (x.length : Int) < n then .empty else ofL (x.take n.toNat) | none => .empty
def rtS (S : ByteArray) (r : Option (Int × List UInt8)) : ByteArray := match r with | some (n, x) => if (x.length : Int) < n then ofL x else ofL (x.drop n.toNat) | none => S
def rtB (r : Option (Int × List UInt8)) : Bool := match r with | some (n, x) => decide ((x.length : Int) < n) | none => true
end
end Go.Proofs.YthmjeibanofliaaDoor

/-
  What the document's line (package lockageref08) answers: a line's task, or what is wrong with it. Conditions: a million words at most, of a million bytes, at places below a million; eight names at most.
-/
import Derived.Test.YtpndjeccfdcjpaaManE
import Derived.Deep.RegionWith
import Derived.StillTailTactics
namespace Go.Proofs.Ytpndjeccfdcjpaa
open Go.RowKit

section
variable {w : World} {A B : Option Addr} {c c2 : Nat} {l : List Wd} {names : List ByteArray}
end
end Go.Proofs.Ytpndjeccfdcjpaa

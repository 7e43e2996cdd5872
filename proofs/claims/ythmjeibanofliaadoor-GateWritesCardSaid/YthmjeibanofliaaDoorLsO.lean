/-
  A try that comes in as an argument, opened. No conditions.
-/
import Derived.Test.YthmjeibanofliaaDoorLsP
import Derived.ProofKit
import Derived.OpenShut
import Derived.ChangeOld
import Derived.Lib.SmallJoins
namespace Go.Proofs.YthmjeibanofliaaDoor
open Go.ChangeShapes Go.WideShapes Go.ChangeAt Go.RowKit Go.Joins

/-- Six numbers of 64 bits. -/
structure TrP.In (t : TrP) : Prop where
  st : -9223372036854775808 ≤ t.st ∧ t.st ≤ 9223372036854775807
  sn : -9223372036854775808 ≤ t.sn ∧ t.sn ≤ 9223372036854775807
  ms : -9223372036854775808 ≤ t.ms ∧ t.ms ≤ 9223372036854775807
  wk : -9223372036854775808 ≤ t.wk ∧ t.wk ≤ 9223372036854775807
  ls : -9223372036854775808 ≤ t.ls ∧ t.ls ≤ 9223372036854775807
  un : -9223372036854775808 ≤ t.un ∧ t.un ≤ 9223372036854775807
section
variable {H : Type} {enc : TypeId × Value → H} {w : World} {base : Nat} {spare : Nat → Bool} {held : Bool}
theorem cellsI6 : Tryd.prog.cellsOf 3 = 1 := by kernel_rfl
end
end Go.Proofs.YthmjeibanofliaaDoor

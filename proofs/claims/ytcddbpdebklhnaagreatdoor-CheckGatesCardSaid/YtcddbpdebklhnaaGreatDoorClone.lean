/-
  strings.Clone. Conditions: lengths.
-/
import Derived.Test.YtcddbpdebklhnaaGreatDoorCodP
import Derived.Test.YtcddbpdebklhnaaGreatDoorShelf
import Derived.Lib.SmallJoins
import Derived.IntWalk
namespace Go.Proofs.YtcddbpdebklhnaaGreatDoor
open Go.RowKit

set_option maxHeartbeats 1000000 in
set_option maxRecDepth 100000 in
/-- strings.Clone. -/
theorem clone_is (w : World) (s : ByteArray) (hs : s.size ≤ 1000000000) :
    Calls Tryz.prog 82 #[.string s] w fun e w' => e = .returned (.string s) ∧ Below w.heap.size w w' := by
  go_enter Tryz.func82, Tryz.ntmps82
  go_wp2_with fail
  refine (Tryz.stringslite_Clone s w (by omega)).mono ?_
  rintro e w1 ⟨rfl, hb⟩
  have HB := Lib.hid hb
  clear hb
  go_wp2_with fail
  go_ret
  exact ⟨rfl, HB.out⟩
end Go.Proofs.YtcddbpdebklhnaaGreatDoor

/-
  The first line of layer 3's laws holds of the program's disk; DiskFates, and DiskArmed, walked. No conditions.
-/
import Derived.Test.YtabjpmofakdacaaDiskQ
import Derived.Test.YtabjpmofakdacaaDiskI
namespace Go.Proofs.Ytabjpmofakdacaa
open Go.RowKit

theorem awake_true (w : World) : Calls Try.prog 9 #[] w fun e w' => e = .returned (.bool true) ∧ Below w.heap.size w w' := awake_is disk_ok w

set_option maxHeartbeats 400000 in
theorem fates_walk (a b : Int) (ha : 0 ≤ a ∧ a ≤ 18446744073709551615) (hb : -9223372036854775808 ≤ b ∧ b ≤ 9223372036854775807) (w : World) :
    Calls Try.prog 5 #[.int .u64 a, .int .i64 b] w fun e w' => e = .returned (.bool true) ∧ Below w.heap.size w w' := by
  have H1 := Lib.hid (fun w : World => dfate_is a b ha.1 (by omega) hb.2 w)
  have H2 := Lib.hid (fun w : World => reffate_is a b ha.1 (by omega) hb.2 w)
  have hv := fateV_cases a b
  generalize fateV a b = v at H1 H2 hv
  clear ha hb
  rcases hv with rfl | rfl | rfl | rfl | rfl
  all_goals
    go_enter Try.func5, Try.ntmps5
    go_wp2_with fail
    refine (H1.out _).mono ?_
    rintro e _ ⟨rfl, rfl⟩
    go_wp2_with fail
    refine (awake_true _).mono ?_
    rintro e w1 ⟨rfl, hb1⟩
    go_wp2_with fail
    refine (H2.out _).mono ?_
    rintro e _ ⟨rfl, rfl⟩
    go_wp2_with fail
    go_ret
    exact ⟨rfl, hb1⟩
end Go.Proofs.Ytabjpmofakdacaa

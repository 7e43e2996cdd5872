/-
  What label's Join and Meet make, block by block. No conditions.
-/
import Derived.Test.YtohonaifcpcnbaaLabelA
namespace Go.Proofs.Ytohonaifcpcnbaa
open Go.RowKit

set_option maxHeartbeats 400000 in
theorem join_exact (l s m t : Int) (w : World) :
    Calls Try.prog 12 #[.agg #[.int .i64 l, .int .u16 s], .agg #[.int .i64 m, .int .u16 t]] w fun e w' => e = .returned (.agg #[.int .i64 (mxI l m), .int .u16 (orS s t)]) ∧ ((w.alloc (.cells #[.int .i64 l, .int .u16 s] 24)).alloc (.cells #[.int .i64 m, .int .u16 t] 24)).alloc (.cells #[.int .i64 (mxI l m), .int .u16 (orS s t)] 24) = w' := by
  go_enter Try.func12, Try.ntmps12
  go_wp2
  all_goals
    refine bodyPost_ret (v := .agg #[.int .i64 (mxI l m), .int .u16 (orS s t)]) (by unfold mxI orS; (first | rw [if_pos (by assumption)] | rw [if_neg (by omega)]); simp [results, Try.results12, go_sem]) rfl ⟨rfl, ?_⟩
    unfold mxI orS
    (first | rw [if_pos (by assumption)] | rw [if_neg (by omega)])

set_option maxHeartbeats 400000 in
theorem meet_exact (l s m t : Int) (w : World) :
    Calls Try.prog 14 #[.agg #[.int .i64 l, .int .u16 s], .agg #[.int .i64 m, .int .u16 t]] w fun e w' => e = .returned (.agg #[.int .i64 (mnI l m), .int .u16 (andS s t)]) ∧ ((w.alloc (.cells #[.int .i64 l, .int .u16 s] 24)).alloc (.cells #[.int .i64 m, .int .u16 t] 24)).alloc (.cells #[.int .i64 (mnI l m), .int .u16 (andS s t)] 24) = w' := by
  go_enter Try.func14, Try.ntmps14
  go_wp2
  all_goals
    refine bodyPost_ret (v := .agg #[.int .i64 (mnI l m), .int .u16 (andS s t)]) (by unfold mnI andS; (first | rw [if_pos (by assumption)] | rw [if_neg (by omega)]); simp [results, Try.results14, go_sem]) rfl ⟨rfl, ?_⟩
    unfold mnI andS
    (first | rw [if_pos (by assumption)] | rw [if_neg (by omega)])

end Go.Proofs.Ytohonaifcpcnbaa

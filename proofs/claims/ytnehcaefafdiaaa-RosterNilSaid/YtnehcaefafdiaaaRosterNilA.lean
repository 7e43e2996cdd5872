/-
  The law RosterNil, walked. No conditions.
-/
import Derived.Test.YtnehcaefafdiaaaRosterN
import Derived.WalkKit
namespace Go.Proofs.Ytnehcaefafdiaaa
open Go.RowKit

set_option maxHeartbeats 400000 in
theorem below_nil (l s : Int) (w : World) :
    Calls Try.prog 21 #[.pointer none, .agg #[.int .i64 l, .int .u16 s]] w fun e w' => e = .returned (.slice none 0 0) ∧ Below w.heap.size w w' := by
  go_enter Try.func21, Try.ntmps21
  go_wp2_with fail
  go_ret
  exact ⟨rfl, (Below.refl _ _).alloc (Nat.le_refl _) _⟩

set_option maxHeartbeats 1000000 in
theorem rosterNil_walk (who part l s : Int) (w : World) :
    Calls Try.prog 5 #[.int .i64 who, .int .i64 part, .agg #[.int .i64 l, .int .u16 s]] w fun e w' => e = .returned (.bool true) ∧ Below w.heap.size w w' := by
  go_enter Try.func5, Try.ntmps5
  go_wp2_with fail
  refine (label_nil _ _).mono ?_
  rintro e w1 ⟨rfl, hb1⟩
  have hB1 := below_step ((Below.refl w.heap.size w).alloc (Nat.le_refl _) (.cells #[.int .i64 l, .int .u16 s] 26)) hb1
  have hB := hB1.alloc hB1.size (.cells #[.int .i64 0, .int .u16 0] 26)
  have c0 : (w1.alloc (.cells #[.int .i64 0, .int .u16 0] 26)).cell? ⟨w.heap.size, 0, none⟩ = some (.int .i64 l) := cell_alloc (cell_later hb1 (by simp [go_sem]))
  have c1 : (w1.alloc (.cells #[.int .i64 0, .int .u16 0] 26)).cell? ⟨w.heap.size, 1, none⟩ = some (.int .u16 s) := cell_alloc (cell_later hb1 (by simp [go_sem]))
  clear hb1 hB1
  go_wp2_with (first
    | (go_at_call 7; refine (awake_is _).mono ?_; rintro e wn ⟨rfl, hb⟩; replace hB := below_step hB hb; replace c0 := cell_later hb c0; replace c1 := cell_later hb c1; clear hb)
    | (go_at_call 10; refine (parts_nil _).mono ?_; rintro e wm ⟨rfl, rfl⟩)
    | (go_at_call 11; refine (people_nil _).mono ?_; rintro e wm ⟨rfl, rfl⟩)
    | (go_at_call 13; refine (part_nil _ _).mono ?_; rintro e wm ⟨rfl, rfl⟩)
    | (go_at_call 14; refine (sees_nil _ _ _).mono ?_; rintro e wn ⟨rfl, hb⟩; replace hB := below_step hB hb; replace c0 := cell_later hb c0; replace c1 := cell_later hb c1; clear hb)
    | (go_at_call 16; refine (may_nil _ _ _ _).mono ?_; rintro e wn ⟨rfl, hb⟩; replace hB := below_step hB hb; replace c0 := cell_later hb c0; replace c1 := cell_later hb c1; clear hb)
    | (go_at_call 18; refine (find_nil _ _ _).mono ?_; rintro e wn ⟨rfl, hb⟩; replace hB := below_step hB hb; replace c0 := cell_later hb c0; replace c1 := cell_later hb c1; clear hb)
    | (go_at_call 21; refine (below_nil _ _ _).mono ?_; rintro e wn ⟨rfl, hb⟩; replace hB := below_step hB hb; replace c0 := cell_later hb c0; replace c1 := cell_later hb c1; clear hb))
  go_ret
  exact ⟨rfl, hB⟩

end Go.Proofs.Ytnehcaefafdiaaa

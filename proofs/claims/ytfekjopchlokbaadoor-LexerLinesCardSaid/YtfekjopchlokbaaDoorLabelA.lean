/-
  What label's small functions (Right, Join, Meet, Leq, Less, Off, Over) answer, whatever they are given, and that they leave all memory that was there as it was. No conditions.
-/
import Derived.Test.YtfekjopchlokbaaDoorRows
import Derived.Test.YtfekjopchlokbaaDoorLabelP
import Derived.WalkKit
import Derived.WalkSpells
import Derived.WalkLawsBesides
import Derived.Lib.Hide
namespace Go.Proofs.YtfekjopchlokbaaDoor
open Go.RowKit

theorem bcell {W w1 : World} (hb : Below W.heap.size W w1) : (∀ b o, b < W.heap.size → w1.cell? ⟨b, o, none⟩ = W.cell? ⟨b, o, none⟩) ∧ (∀ b o, b < W.heap.size → w1.frozen? ⟨b, o, none⟩ = W.frozen? ⟨b, o, none⟩) :=
  ⟨fun b o h => hb.cell (p := ⟨b, o, none⟩) h, fun b o h => hb.frozen (p := ⟨b, o, none⟩) h⟩

/-- Two labels held against each other. -/
@[go_sem ↓] theorem eqLab (a b c d : Int) (w : World) : (Op.equalIn 10000 44 (.agg #[.int .i64 a, .int .u16 b]) (.agg #[.int .i64 c, .int .u16 d])).run Tryd.prog w = .ok (sameB a b c d) w := by
  have hS : Tryd.prog.underlying 44 = some (.struct (Tryd.prog.fieldsOf 44)) := by kernel_rfl
  rw [show (10000 : Nat) = 9999 + 1 from rfl, run_equalIn_agg w 9999 44 _ _ hS (by kernel_rfl)]
  have e : (Tryd.prog.fieldsOf 44).toList = (Tryd.prog.fieldsOf 43).toList := by kernel_rfl
  simp only [Program.fieldsOf, Tryd.underlying44]
  go_simp
  unfold sameB
  by_cases h1 : a = c <;> by_cases h2 : b = d <;> simp [h1, h2]

theorem ret_bool {a b : Bool} (h : a = b) : Ending.returned (.bool a) = .returned (.bool b) := by rw [h]

set_option maxHeartbeats 400000 in
set_option maxRecDepth 100000 in
theorem right_is (l s : Int) (r : Bool) (hr : rightB l = r) (w : World) :
    Calls Tryd.prog 33 #[.agg #[.int .i64 l, .int .u16 s]] w fun e w' => e = .returned (.bool r) ∧ Below w.heap.size w w' := by
  have H := Lib.hid hr
  clear hr
  go_enter Tryd.func33, Tryd.ntmps33
  go_wp2
  all_goals
    go_ret
    exact ⟨ret_bool (by rw [← H.out]; simp [rightB]; try omega), (Below.refl _ _).alloc (Nat.le_refl _) _⟩

set_option maxHeartbeats 400000 in
set_option maxRecDepth 100000 in
theorem right_exact (l s : Int) (r : Bool) (hr : rightB l = r) (w : World) :
    Calls Tryd.prog 33 #[.agg #[.int .i64 l, .int .u16 s]] w fun e w' => e = .returned (.bool r) ∧ w.alloc (.cells #[.int .i64 l, .int .u16 s] 44) = w' := by
  have H := Lib.hid hr
  clear hr
  go_enter Tryd.func33, Tryd.ntmps33
  go_wp2
  all_goals
    go_ret
    exact ⟨ret_bool (by rw [← H.out]; simp [rightB]; try omega), rfl⟩

end Go.Proofs.YtfekjopchlokbaaDoor

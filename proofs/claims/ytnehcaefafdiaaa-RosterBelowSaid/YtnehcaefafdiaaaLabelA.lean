/-
  What label's small functions (Right, Join, Meet, Leq, Less, Off, Over) answer, whatever they are given, and that they leave all memory that was there as it was. No conditions.
-/
import Derived.Test.YtnehcaefafdiaaaRows
import Derived.Test.YtnehcaefafdiaaaLabelP
import Derived.WalkKit
import Derived.WalkSpells
import Derived.WalkLawsBesides
import Derived.Lib.Hide
namespace Go.Proofs.Ytnehcaefafdiaaa
open Go.RowKit

theorem bcell {W w1 : World} (hb : Below W.heap.size W w1) : (∀ b o, b < W.heap.size → w1.cell? ⟨b, o, none⟩ = W.cell? ⟨b, o, none⟩) ∧ (∀ b o, b < W.heap.size → w1.frozen? ⟨b, o, none⟩ = W.frozen? ⟨b, o, none⟩) :=
  ⟨fun b o h => hb.cell (p := ⟨b, o, none⟩) h, fun b o h => hb.frozen (p := ⟨b, o, none⟩) h⟩

/-- Two labels held against each other. -/
@[go_sem ↓] theorem eqLab (a b c d : Int) (w : World) : (Op.equalIn 10000 26 (.agg #[.int .i64 a, .int .u16 b]) (.agg #[.int .i64 c, .int .u16 d])).run Try.prog w = .ok (sameB a b c d) w := by
  have hS : Try.prog.underlying 26 = some (.struct (Try.prog.fieldsOf 26)) := by kernel_rfl
  rw [show (10000 : Nat) = 9999 + 1 from rfl, run_equalIn_agg w 9999 26 _ _ hS (by kernel_rfl)]
  have e : (Try.prog.fieldsOf 26).toList = (Try.prog.fieldsOf 25).toList := by kernel_rfl
  simp only [Program.fieldsOf, Try.underlying26]
  go_simp
  unfold sameB
  by_cases h1 : a = c <;> by_cases h2 : b = d <;> simp [h1, h2]

theorem ret_bool {a b : Bool} (h : a = b) : Ending.returned (.bool a) = .returned (.bool b) := by rw [h]

set_option maxHeartbeats 400000 in
theorem right_is (l s : Int) (r : Bool) (hr : rightB l = r) (w : World) :
    Calls Try.prog 37 #[.agg #[.int .i64 l, .int .u16 s]] w fun e w' => e = .returned (.bool r) ∧ Below w.heap.size w w' := by
  have H := Lib.hid hr
  clear hr
  go_enter Try.func37, Try.ntmps37
  go_wp2
  all_goals
    go_ret
    exact ⟨ret_bool (by rw [← H.out]; simp [rightB]; try omega), (Below.refl _ _).alloc (Nat.le_refl _) _⟩

set_option maxHeartbeats 400000 in
theorem right_exact (l s : Int) (r : Bool) (hr : rightB l = r) (w : World) :
    Calls Try.prog 37 #[.agg #[.int .i64 l, .int .u16 s]] w fun e w' => e = .returned (.bool r) ∧ w.alloc (.cells #[.int .i64 l, .int .u16 s] 26) = w' := by
  have H := Lib.hid hr
  clear hr
  go_enter Try.func37, Try.ntmps37
  go_wp2
  all_goals
    go_ret
    exact ⟨ret_bool (by rw [← H.out]; simp [rightB]; try omega), rfl⟩

set_option maxHeartbeats 400000 in
theorem refright_is (l s : Int) (r : Bool) (hr : rightB l = r) (w : World) :
    Calls Try.prog 28 #[.agg #[.int .i64 l, .int .u16 s]] w fun e w' => e = .returned (.bool r) ∧ Below w.heap.size w w' := by
  have H := Lib.hid hr
  clear hr
  go_enter Try.func28, Try.ntmps28
  go_wp2
  all_goals
    go_ret
    exact ⟨ret_bool (by rw [← H.out]; simp [rightB]; try omega), (Below.refl _ _).alloc (Nat.le_refl _) _⟩

set_option maxHeartbeats 400000 in
theorem leq_is (l s m t : Int) (r : Bool) (hr : leqB l s m t = r) (w : World) :
    Calls Try.prog 30 #[.agg #[.int .i64 l, .int .u16 s], .agg #[.int .i64 m, .int .u16 t]] w fun e w' => e = .returned (.bool r) ∧ Below w.heap.size w w' := by
  have H := Lib.hid hr
  clear hr
  go_enter Try.func30, Try.ntmps30
  go_wp2
  all_goals
    go_ret
    exact ⟨ret_bool (by rw [← H.out]; simp [leqB, offS]; try omega), ((Below.refl _ _).alloc (Nat.le_refl _) _).alloc (by simp) _⟩

set_option maxHeartbeats 400000 in
theorem over_is (l s m t : Int) (r : Bool) (hr : leqB m t l s = r) (w : World) :
    Calls Try.prog 31 #[.agg #[.int .i64 l, .int .u16 s], .agg #[.int .i64 m, .int .u16 t]] w fun e w' => e = .returned (.bool r) ∧ Below w.heap.size w w' := by
  go_enter Try.func31, Try.ntmps31
  go_wp2_with (go_at_call 30; refine (leq_is _ _ _ _ r hr _).mono ?_; rintro e w1 ⟨rfl, hb⟩)
  go_ret
  exact ⟨rfl, (((Below.refl _ _).alloc (Nat.le_refl _) _).alloc (by simp) _).trans (hb.mono (by simp; omega))⟩

set_option maxHeartbeats 400000 in
theorem off_is (l s m t : Int) (w : World) :
    Calls Try.prog 32 #[.agg #[.int .i64 l, .int .u16 s], .agg #[.int .i64 m, .int .u16 t]] w fun e w' => e = .returned (.agg #[.int .i64 (offL l m), .int .u16 (offS s t)]) ∧ Below w.heap.size w w' := by
  go_enter Try.func32, Try.ntmps32
  go_wp2
  all_goals
    refine bodyPost_ret (v := .agg #[.int .i64 (offL l m), .int .u16 (offS s t)]) (by unfold offL offS; (first | rw [if_pos (by assumption)] | rw [if_neg (by omega)]); simp [results, Try.results32, go_sem]) rfl ⟨rfl, ?_⟩
    exact ((((Below.refl _ _).alloc (Nat.le_refl _) _).alloc (by simp) _).alloc (by simp; omega) _).alloc (by simp; omega) _

end Go.Proofs.Ytnehcaefafdiaaa

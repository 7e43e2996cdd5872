/-
  The law DiskNil, walked. No conditions.
-/
import Derived.Test.YtabjpmofakdacaaDiskR
namespace Go.Proofs.Ytabjpmofakdacaa
open Go.RowKit

theorem below_step {w a b : World} (h : Below w.heap.size w a) (k : Below a.heap.size a b) : Below w.heap.size w b := h.trans (k.mono h.size)

section
variable (w : World)
set_option maxHeartbeats 400000 in
theorem nlen_is : Calls Try.prog 27 #[.pointer none] w fun e w' => e = .returned (.int .i64 0) ∧ w = w' := by
  go_enter Try.func27, Try.ntmps27
  go_wp2
  go_ret
  exact ⟨rfl, rfl⟩
set_option maxHeartbeats 400000 in
theorem ndown_is : Calls Try.prog 25 #[.pointer none] w fun e w' => e = .returned (.bool false) ∧ w = w' := by
  go_enter Try.func25, Try.ntmps25
  go_wp2
  go_ret
  exact ⟨rfl, rfl⟩
set_option maxHeartbeats 400000 in
theorem nwrites_is : Calls Try.prog 26 #[.pointer none] w fun e w' => e = .returned (.int .i64 0) ∧ w = w' := by
  go_enter Try.func26, Try.ntmps26
  go_wp2
  go_ret
  exact ⟨rfl, rfl⟩
set_option maxHeartbeats 400000 in
theorem nthere_is (a : Int) : Calls Try.prog 32 #[.pointer none, .int .i64 a] w fun e w' => e = .returned (.bool false) ∧ w = w' := by
  by_cases h0 : a < 0
  · go_enter Try.func32, Try.ntmps32
    go_wp2_with fail
    go_ret
    exact ⟨ret_bool (by simp; try omega), rfl⟩
  · go_enter Try.func32, Try.ntmps32
    go_wp2_with fail
    refine (nlen_is _).mono ?_
    rintro e _ ⟨rfl, rfl⟩
    go_wp2_with fail
    go_ret
    exact ⟨ret_bool (by simp; try omega), rfl⟩
set_option maxHeartbeats 400000 in
theorem nkept_is (a : Int) : Calls Try.prog 28 #[.pointer none, .int .i64 a] w fun e w' => e = .returned (.string ⟨#[]⟩) ∧ w = w' := by
  go_enter Try.func28, Try.ntmps28
  go_wp2_with fail
  refine (nthere_is _ a).mono ?_
  rintro e _ ⟨rfl, rfl⟩
  go_wp2_with fail
  go_ret
  exact ⟨rfl, rfl⟩
set_option maxHeartbeats 400000 in
theorem nwrite_is (a : Int) (s : ByteArray) : Calls Try.prog 13 #[.pointer none, .int .i64 a, .string s] w fun e w' => e = .returned (.int .i64 8) ∧ w = w' := by
  go_enter Try.func13, Try.ntmps13
  go_wp2_with fail
  go_ret
  exact ⟨rfl, rfl⟩
set_option maxHeartbeats 400000 in
theorem nflush_is : Calls Try.prog 15 #[.pointer none] w fun e w' => e = .returned (.int .i64 8) ∧ w = w' := by
  go_enter Try.func15, Try.ntmps15
  go_wp2_with fail
  go_ret
  exact ⟨rfl, rfl⟩
set_option maxHeartbeats 400000 in
theorem nread_is (a : Int) : Calls Try.prog 17 #[.pointer none, .int .i64 a] w fun e w' => e = .returned (.tuple #[.string ⟨#[]⟩, .int .i64 8]) ∧ w = w' := by
  go_enter Try.func17, Try.ntmps17
  go_wp2_with fail
  go_ret2
  exact ⟨rfl, rfl⟩
set_option maxHeartbeats 400000 in
theorem ncrash_is (b : Int) : Calls Try.prog 21 #[.pointer none, .int .u64 b] w fun e w' => e = .returned (.tuple #[]) ∧ w = w' := by
  go_enter Try.func21, Try.ntmps21
  go_wp2_with fail
  refine bodyPost_ret (by simp [results, Try.results21]) rfl ⟨rfl, rfl⟩
set_option maxHeartbeats 400000 in
theorem nstart_is : Calls Try.prog 23 #[.pointer none] w fun e w' => e = .returned (.tuple #[]) ∧ w = w' := by
  go_enter Try.func23, Try.ntmps23
  go_wp2_with fail
  refine bodyPost_ret (by simp [results, Try.results23]) rfl ⟨rfl, rfl⟩
set_option maxHeartbeats 400000 in
theorem narm_is (a b : Int) : Calls Try.prog 19 #[.pointer none, .agg #[.int .i64 a, .int .u64 b]] w fun e w' => e = .returned (.tuple #[]) ∧ Below w.heap.size w w' := by
  go_enter Try.func19, Try.ntmps19
  go_wp2_with fail
  refine bodyPost_ret (by simp [results, Try.results19]) rfl ⟨rfl, (Below.refl _ _).alloc (Nat.le_refl _) _⟩

set_option maxHeartbeats 1000000 in
theorem nil_walk (at_ : Int) (s : ByteArray) (a b : Int) :
    Calls Try.prog 6 #[.int .i64 at_, .string s, .agg #[.int .i64 a, .int .u64 b]] w fun e w' => e = .returned (.bool true) ∧ Below w.heap.size w w' := by
  go_enter Try.func6, Try.ntmps6
  go_wp2_with fail
  refine (narm_is _ _ _).mono ?_
  rintro e w1 ⟨rfl, hb1⟩
  have hB := below_step ((Below.refl w.heap.size w).alloc (Nat.le_refl _) (.cells #[.int .i64 a, .int .u64 b] 32)) hb1
  have c1 : w1.cell? ⟨w.heap.size, 1, none⟩ = some (.int .u64 b) := cell_later hb1 (by simp [go_sem])
  clear hb1
  go_wp2_with (first
    | (go_at_call 9; refine (awake_true _).mono ?_; rintro e wn ⟨rfl, hb⟩; replace hB := below_step hB hb; replace c1 := cell_later hb c1; clear hb)
    | (go_at_call 21; refine (ncrash_is _ _).mono ?_; rintro e wm ⟨rfl, rfl⟩)
    | (go_at_call 23; refine (nstart_is _).mono ?_; rintro e wm ⟨rfl, rfl⟩)
    | (go_at_call 17; refine (nread_is _ _).mono ?_; rintro e wm ⟨rfl, rfl⟩)
    | (go_at_call 13; refine (nwrite_is _ _ _).mono ?_; rintro e wm ⟨rfl, rfl⟩)
    | (go_at_call 15; refine (nflush_is _).mono ?_; rintro e wm ⟨rfl, rfl⟩)
    | (go_at_call 25; refine (ndown_is _).mono ?_; rintro e wm ⟨rfl, rfl⟩)
    | (go_at_call 28; refine (nkept_is _ _).mono ?_; rintro e wm ⟨rfl, rfl⟩)
    | (go_at_call 26; refine (nwrites_is _).mono ?_; rintro e wm ⟨rfl, rfl⟩)
    | (go_at_call 27; refine (nlen_is _).mono ?_; rintro e wm ⟨rfl, rfl⟩))
  go_ret
  exact ⟨rfl, hB⟩
end
end Go.Proofs.Ytabjpmofakdacaa

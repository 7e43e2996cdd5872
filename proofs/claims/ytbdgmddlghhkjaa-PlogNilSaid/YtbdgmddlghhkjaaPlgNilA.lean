/-
  The law PlogNil, walked. No conditions.
-/
import Derived.Test.YtbdgmddlghhkjaaPlgV
namespace Go.Proofs.Ytbdgmddlghhkjaa
open Go.RowKit

section
variable (w : World)
set_option maxHeartbeats 400000 in
set_option maxRecDepth 100000 in
theorem pbase_nil : Calls Try.prog 15 #[.pointer none] w fun e w' => e = .returned (.string ⟨#[]⟩) ∧ w = w' := by
  go_enter Try.func15, Try.ntmps15
  go_wp2_with fail
  go_ret
  exact ⟨rfl, rfl⟩
set_option maxHeartbeats 400000 in
set_option maxRecDepth 100000 in
theorem precords_nil : Calls Try.prog 16 #[.pointer none] w fun e w' => e = .returned (.slice none 0 0) ∧ w = w' := by
  go_enter Try.func16, Try.ntmps16
  go_wp2_with fail
  go_ret
  exact ⟨rfl, rfl⟩
set_option maxHeartbeats 400000 in
set_option maxRecDepth 100000 in
theorem pgen_nil : Calls Try.prog 14 #[.pointer none] w fun e w' => e = .returned (.int .i64 0) ∧ w = w' := by
  go_enter Try.func14, Try.ntmps14
  go_wp2_with fail
  go_ret
  exact ⟨rfl, rfl⟩
set_option maxHeartbeats 400000 in
set_option maxRecDepth 100000 in
theorem proom_nil : Calls Try.prog 17 #[.pointer none] w fun e w' => e = .returned (.int .i64 0) ∧ w = w' := by
  go_enter Try.func17, Try.ntmps17
  go_wp2_with fail
  go_ret
  exact ⟨rfl, rfl⟩

set_option maxHeartbeats 400000 in
set_option maxRecDepth 100000 in
theorem nil_long (s : ByteArray) (b half : Int) (hs : 300 < s.size) :
    Calls Try.prog 5 #[.string s, .int .i64 b, .int .i64 half] w fun e w' => e = .returned (.bool true) ∧ Below w.heap.size w w' := by
  go_enter Try.func5, Try.ntmps5
  go_wp2_with fail
  refine (awake_true _).mono ?_
  rintro e w1 ⟨rfl, hb1⟩
  go_wp2_with fail
  refine (awake_true _).mono ?_
  rintro e w2 ⟨rfl, hb2⟩
  have hB := below_step hb1 hb2
  clear hb1 hb2
  go_wp2_with fail
  go_ret
  exact ⟨rfl, hB⟩
set_option maxHeartbeats 1000000 in
set_option maxRecDepth 100000 in
theorem nil_a (s : ByteArray) (b half : Int) (hs : ¬ 300 < s.size) (h1 : half < 1) :
    Calls Try.prog 5 #[.string s, .int .i64 b, .int .i64 half] w fun e w' => e = .returned (.bool true) ∧ Below w.heap.size w w' := by
  have HARG := Lib.hid (show openArg (newS 8) b half = true by
    unfold openArg
    simp only [newS, List.length_replicate, Bool.or_eq_true, decide_eq_true_eq]
    omega)
  have SEC := Lib.hid (fun W : World => sectors_is s (by omega) W)
  have CNT := Lib.hid (fun W : World => refcount_is s.size (by omega) (by omega) W)
  rw [cntI_nat] at CNT
  generalize hnn : cntN s.size = nn at *
  clear hnn
  go_enter Try.func5, Try.ntmps5
  go_wp2_with fail
  refine (awake_true _).mono ?_
  rintro e w1 ⟨rfl, hb1⟩
  go_wp2_with fail
  refine (dnew_yes 8 _ (by omega) (by omega)).mono ?_
  rintro e w2 ⟨D, rfl, hd2, hb2⟩
  have HD2 := Lib.hid (diskAt_mono hd2 hb1.size)
  have HB2 := Lib.hid (below_step hb1 hb2)

  clear hd2 hb2 hb1
  go_wp2_with fail
  refine (popen_arg HD2.out b half 0 HARG.out).mono ?_
  rintro e w3 ⟨rfl, hw3⟩
  subst hw3
  have HD3 := HD2
  have HB3 := HB2
  clear HD2 HB2 HARG
  go_wp2_with fail
  refine (dcrash_is HD3.out 0 (by omega) (by omega) (by simp [newS])).mono ?_
  rintro e w4 ⟨rfl, hd4, ho4⟩
  have HD4 := Lib.hid hd4
  have HB4 := Lib.hid (HB3.out.trans (ho4.below HB3.out.size))
  clear hd4 ho4 HD3 HB3
  go_wp2_with fail
  refine (popen_down HD4.out 0 1 0 (by rfl) rfl).mono ?_
  rintro e w5 ⟨rfl, hw5⟩
  subst hw5
  go_wp2_with fail
  refine (pappend_nil s s _).mono ?_
  rintro e w5 ⟨rfl, hw5⟩
  subst hw5
  go_wp2_with fail
  refine (pbase_nil _).mono ?_
  rintro e w5 ⟨rfl, hw5⟩
  subst hw5
  go_wp2_with fail
  refine (precords_nil _).mono ?_
  rintro e w5 ⟨rfl, hw5⟩
  subst hw5
  go_wp2_with fail
  refine (pgen_nil _).mono ?_
  rintro e w5 ⟨rfl, hw5⟩
  subst hw5
  go_wp2_with fail
  refine (proom_nil _).mono ?_
  rintro e w5 ⟨rfl, hw5⟩
  subst hw5
  go_wp2_with fail
  refine (SEC.out _).mono ?_
  rintro e w5 ⟨rfl, hw5⟩
  subst hw5
  go_wp2_with fail
  refine (CNT.out _).mono ?_
  rintro e w5 ⟨rfl, hw5⟩
  subst hw5
  go_wp2_with fail
  go_ret
  exact ⟨rfl, HB4.out⟩
set_option maxHeartbeats 1000000 in
set_option maxRecDepth 100000 in
theorem nil_b (s : ByteArray) (b half : Int) (hs : ¬ 300 < s.size) (h1 : ¬ half < 1) (h2 : 4 < half) :
    Calls Try.prog 5 #[.string s, .int .i64 b, .int .i64 half] w fun e w' => e = .returned (.bool true) ∧ Below w.heap.size w w' := by
  have HARG := Lib.hid (show openArg (newS 8) b half = true by
    unfold openArg
    simp only [newS, List.length_replicate, Bool.or_eq_true, decide_eq_true_eq]
    omega)
  have SEC := Lib.hid (fun W : World => sectors_is s (by omega) W)
  have CNT := Lib.hid (fun W : World => refcount_is s.size (by omega) (by omega) W)
  rw [cntI_nat] at CNT
  generalize hnn : cntN s.size = nn at *
  clear hnn
  go_enter Try.func5, Try.ntmps5
  go_wp2_with fail
  refine (awake_true _).mono ?_
  rintro e w1 ⟨rfl, hb1⟩
  go_wp2_with fail
  refine (dnew_yes 8 _ (by omega) (by omega)).mono ?_
  rintro e w2 ⟨D, rfl, hd2, hb2⟩
  have HD2 := Lib.hid (diskAt_mono hd2 hb1.size)
  have HB2 := Lib.hid (below_step hb1 hb2)

  clear hd2 hb2 hb1
  go_wp2_with fail
  refine (popen_arg HD2.out b half 0 HARG.out).mono ?_
  rintro e w3 ⟨rfl, hw3⟩
  subst hw3
  have HD3 := HD2
  have HB3 := HB2
  clear HD2 HB2 HARG
  go_wp2_with fail
  refine (dcrash_is HD3.out 0 (by omega) (by omega) (by simp [newS])).mono ?_
  rintro e w4 ⟨rfl, hd4, ho4⟩
  have HD4 := Lib.hid hd4
  have HB4 := Lib.hid (HB3.out.trans (ho4.below HB3.out.size))
  clear hd4 ho4 HD3 HB3
  go_wp2_with fail
  refine (popen_down HD4.out 0 1 0 (by rfl) rfl).mono ?_
  rintro e w5 ⟨rfl, hw5⟩
  subst hw5
  go_wp2_with fail
  refine (pappend_nil s s _).mono ?_
  rintro e w5 ⟨rfl, hw5⟩
  subst hw5
  go_wp2_with fail
  refine (pbase_nil _).mono ?_
  rintro e w5 ⟨rfl, hw5⟩
  subst hw5
  go_wp2_with fail
  refine (precords_nil _).mono ?_
  rintro e w5 ⟨rfl, hw5⟩
  subst hw5
  go_wp2_with fail
  refine (pgen_nil _).mono ?_
  rintro e w5 ⟨rfl, hw5⟩
  subst hw5
  go_wp2_with fail
  refine (proom_nil _).mono ?_
  rintro e w5 ⟨rfl, hw5⟩
  subst hw5
  go_wp2_with fail
  refine (SEC.out _).mono ?_
  rintro e w5 ⟨rfl, hw5⟩
  subst hw5
  go_wp2_with fail
  refine (CNT.out _).mono ?_
  rintro e w5 ⟨rfl, hw5⟩
  subst hw5
  go_wp2_with fail
  go_ret
  exact ⟨rfl, HB4.out⟩
set_option maxHeartbeats 1000000 in
set_option maxRecDepth 100000 in
theorem nil_c (s : ByteArray) (b half : Int) (hs : ¬ 300 < s.size) (h1 : ¬ half < 1) (h2 : ¬ 4 < half) (h3 : b < 0) :
    Calls Try.prog 5 #[.string s, .int .i64 b, .int .i64 half] w fun e w' => e = .returned (.bool true) ∧ Below w.heap.size w w' := by
  have HARG := Lib.hid (show openArg (newS 8) b half = true by
    unfold openArg
    simp only [newS, List.length_replicate, Bool.or_eq_true, decide_eq_true_eq]
    omega)
  have SEC := Lib.hid (fun W : World => sectors_is s (by omega) W)
  have CNT := Lib.hid (fun W : World => refcount_is s.size (by omega) (by omega) W)
  rw [cntI_nat] at CNT
  generalize hnn : cntN s.size = nn at *
  clear hnn
  go_enter Try.func5, Try.ntmps5
  go_wp2_with fail
  refine (awake_true _).mono ?_
  rintro e w1 ⟨rfl, hb1⟩
  go_wp2_with fail
  refine (dnew_yes 8 _ (by omega) (by omega)).mono ?_
  rintro e w2 ⟨D, rfl, hd2, hb2⟩
  have HD2 := Lib.hid (diskAt_mono hd2 hb1.size)
  have HB2 := Lib.hid (below_step hb1 hb2)

  clear hd2 hb2 hb1
  go_wp2_with fail
  refine (popen_arg HD2.out b half 0 HARG.out).mono ?_
  rintro e w3 ⟨rfl, hw3⟩
  subst hw3
  have HD3 := HD2
  have HB3 := HB2
  clear HD2 HB2 HARG
  go_wp2_with fail
  refine (dcrash_is HD3.out 0 (by omega) (by omega) (by simp [newS])).mono ?_
  rintro e w4 ⟨rfl, hd4, ho4⟩
  have HD4 := Lib.hid hd4
  have HB4 := Lib.hid (HB3.out.trans (ho4.below HB3.out.size))
  clear hd4 ho4 HD3 HB3
  go_wp2_with fail
  refine (popen_down HD4.out 0 1 0 (by rfl) rfl).mono ?_
  rintro e w5 ⟨rfl, hw5⟩
  subst hw5
  go_wp2_with fail
  refine (pappend_nil s s _).mono ?_
  rintro e w5 ⟨rfl, hw5⟩
  subst hw5
  go_wp2_with fail
  refine (pbase_nil _).mono ?_
  rintro e w5 ⟨rfl, hw5⟩
  subst hw5
  go_wp2_with fail
  refine (precords_nil _).mono ?_
  rintro e w5 ⟨rfl, hw5⟩
  subst hw5
  go_wp2_with fail
  refine (pgen_nil _).mono ?_
  rintro e w5 ⟨rfl, hw5⟩
  subst hw5
  go_wp2_with fail
  refine (proom_nil _).mono ?_
  rintro e w5 ⟨rfl, hw5⟩
  subst hw5
  go_wp2_with fail
  refine (SEC.out _).mono ?_
  rintro e w5 ⟨rfl, hw5⟩
  subst hw5
  go_wp2_with fail
  refine (CNT.out _).mono ?_
  rintro e w5 ⟨rfl, hw5⟩
  subst hw5
  go_wp2_with fail
  go_ret
  exact ⟨rfl, HB4.out⟩
set_option maxHeartbeats 1000000 in
set_option maxRecDepth 100000 in
theorem nil_d (s : ByteArray) (b half : Int) (hs : ¬ 300 < s.size) (h1 : ¬ half < 1) (h2 : ¬ 4 < half) (h3 : ¬ b < 0) (h4 : 8 - 2 * half < b) :
    Calls Try.prog 5 #[.string s, .int .i64 b, .int .i64 half] w fun e w' => e = .returned (.bool true) ∧ Below w.heap.size w w' := by
  have HARG := Lib.hid (show openArg (newS 8) b half = true by
    unfold openArg
    simp only [newS, List.length_replicate, Bool.or_eq_true, decide_eq_true_eq]
    omega)
  have SEC := Lib.hid (fun W : World => sectors_is s (by omega) W)
  have CNT := Lib.hid (fun W : World => refcount_is s.size (by omega) (by omega) W)
  rw [cntI_nat] at CNT
  generalize hnn : cntN s.size = nn at *
  clear hnn
  go_enter Try.func5, Try.ntmps5
  go_wp2_with fail
  refine (awake_true _).mono ?_
  rintro e w1 ⟨rfl, hb1⟩
  go_wp2_with fail
  refine (dnew_yes 8 _ (by omega) (by omega)).mono ?_
  rintro e w2 ⟨D, rfl, hd2, hb2⟩
  have HD2 := Lib.hid (diskAt_mono hd2 hb1.size)
  have HB2 := Lib.hid (below_step hb1 hb2)

  clear hd2 hb2 hb1
  go_wp2_with fail
  refine (popen_arg HD2.out b half 0 HARG.out).mono ?_
  rintro e w3 ⟨rfl, hw3⟩
  subst hw3
  have HD3 := HD2
  have HB3 := HB2
  clear HD2 HB2 HARG
  go_wp2_with fail
  refine (dcrash_is HD3.out 0 (by omega) (by omega) (by simp [newS])).mono ?_
  rintro e w4 ⟨rfl, hd4, ho4⟩
  have HD4 := Lib.hid hd4
  have HB4 := Lib.hid (HB3.out.trans (ho4.below HB3.out.size))
  clear hd4 ho4 HD3 HB3
  go_wp2_with fail
  refine (popen_down HD4.out 0 1 0 (by rfl) rfl).mono ?_
  rintro e w5 ⟨rfl, hw5⟩
  subst hw5
  go_wp2_with fail
  refine (pappend_nil s s _).mono ?_
  rintro e w5 ⟨rfl, hw5⟩
  subst hw5
  go_wp2_with fail
  refine (pbase_nil _).mono ?_
  rintro e w5 ⟨rfl, hw5⟩
  subst hw5
  go_wp2_with fail
  refine (precords_nil _).mono ?_
  rintro e w5 ⟨rfl, hw5⟩
  subst hw5
  go_wp2_with fail
  refine (pgen_nil _).mono ?_
  rintro e w5 ⟨rfl, hw5⟩
  subst hw5
  go_wp2_with fail
  refine (proom_nil _).mono ?_
  rintro e w5 ⟨rfl, hw5⟩
  subst hw5
  go_wp2_with fail
  refine (SEC.out _).mono ?_
  rintro e w5 ⟨rfl, hw5⟩
  subst hw5
  go_wp2_with fail
  refine (CNT.out _).mono ?_
  rintro e w5 ⟨rfl, hw5⟩
  subst hw5
  go_wp2_with fail
  go_ret
  exact ⟨ret_bool (by simp; omega), HB4.out⟩
set_option maxHeartbeats 1000000 in
set_option maxRecDepth 100000 in
theorem nil_ok (s : ByteArray) (b half : Int) (hs : ¬ 300 < s.size) (h1 : ¬ half < 1) (h2 : ¬ 4 < half) (h3 : ¬ b < 0) (h4 : ¬ 8 - 2 * half < b) :
    Calls Try.prog 5 #[.string s, .int .i64 b, .int .i64 half] w fun e w' => e = .returned (.bool true) ∧ Below w.heap.size w w' := by
  have INV := Lib.hid (inv_new (n := 8) (b := b) (half := half) (boot := 0) (by omega) (by omega) (by omega) (by omega) (by omega) (by omega))
  have SEC := Lib.hid (fun W : World => sectors_is s (by omega) W)
  have CNT := Lib.hid (fun W : World => refcount_is s.size (by omega) (by omega) W)
  rw [cntI_nat] at CNT
  generalize hnn : cntN s.size = nn at *
  clear hnn
  go_enter Try.func5, Try.ntmps5
  go_wp2_with fail
  refine (awake_true _).mono ?_
  rintro e w1 ⟨rfl, hb1⟩
  go_wp2_with fail
  refine (dnew_yes 8 _ (by omega) (by omega)).mono ?_
  rintro e w2 ⟨D, rfl, hd2, hb2⟩
  have HD2 := Lib.hid (diskAt_mono hd2 hb1.size)
  have HB2 := Lib.hid (below_step hb1 hb2)

  clear hd2 hb2 hb1
  go_wp2_with fail
  refine (lopen_is HD2.out INV.out).mono ?_
  rintro e w3 ⟨B, v, rfl, _, hb3⟩
  have HD3 := Lib.hid (diskAt_later HD2.out hb3)
  have HB3 := Lib.hid (below_step HB2.out hb3)
  clear HD2 HB2 INV hb3
  go_wp2_with fail
  refine (dcrash_is HD3.out 0 (by omega) (by omega) (by simp [newS])).mono ?_
  rintro e w4 ⟨rfl, hd4, ho4⟩
  have HD4 := Lib.hid hd4
  have HB4 := Lib.hid (HB3.out.trans (ho4.below HB3.out.size))
  clear hd4 ho4 HD3 HB3
  go_wp2_with fail
  refine (popen_down HD4.out 0 1 0 (by rfl) rfl).mono ?_
  rintro e w5 ⟨rfl, hw5⟩
  subst hw5
  go_wp2_with fail
  refine (pappend_nil s s _).mono ?_
  rintro e w5 ⟨rfl, hw5⟩
  subst hw5
  go_wp2_with fail
  refine (pbase_nil _).mono ?_
  rintro e w5 ⟨rfl, hw5⟩
  subst hw5
  go_wp2_with fail
  refine (precords_nil _).mono ?_
  rintro e w5 ⟨rfl, hw5⟩
  subst hw5
  go_wp2_with fail
  refine (pgen_nil _).mono ?_
  rintro e w5 ⟨rfl, hw5⟩
  subst hw5
  go_wp2_with fail
  refine (proom_nil _).mono ?_
  rintro e w5 ⟨rfl, hw5⟩
  subst hw5
  go_wp2_with fail
  refine (SEC.out _).mono ?_
  rintro e w5 ⟨rfl, hw5⟩
  subst hw5
  go_wp2_with fail
  refine (CNT.out _).mono ?_
  rintro e w5 ⟨rfl, hw5⟩
  subst hw5
  go_wp2_with fail
  go_ret
  exact ⟨rfl, HB4.out⟩
theorem nil_walk (s : ByteArray) (b half : Int) :
    Calls Try.prog 5 #[.string s, .int .i64 b, .int .i64 half] w fun e w' => e = .returned (.bool true) ∧ Below w.heap.size w w' := by
  by_cases hs : 300 < s.size
  · exact nil_long w s b half hs
  by_cases h1 : half < 1
  · exact nil_a w s b half hs h1
  by_cases h2 : 4 < half
  · exact nil_b w s b half hs h1 h2
  by_cases h3 : b < 0
  · exact nil_c w s b half hs h1 h2 h3
  by_cases h4 : 8 - 2 * half < b
  · exact nil_d w s b half hs h1 h2 h3 h4
  · exact nil_ok w s b half hs h1 h2 h3 h4
end
end Go.Proofs.Ytbdgmddlghhkjaa

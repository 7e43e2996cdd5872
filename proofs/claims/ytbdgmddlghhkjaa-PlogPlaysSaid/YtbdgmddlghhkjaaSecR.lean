/-
  What the program's Right, Count, last and filled (package sector) answer. No conditions but the numbers' types.
-/
import Derived.Test.YtbdgmddlghhkjaaSecD
import Derived.Outline
namespace Go.Proofs.Ytbdgmddlghhkjaa
open Go.RowKit

set_option maxHeartbeats 1000000 in
set_option maxRecDepth 100000 in
theorem right_is (s g o i t : Int) (d : ByteArray) (w : World) :
    Calls Try.prog 51 #[.agg #[.int .u64 s, .int .i64 g, .int .i64 o, .int .i64 i, .int .i64 t, .string d]] w fun e w' => e = .returned (.bool (rightP ⟨s, g, o, i, t, d⟩)) ∧ Below w.heap.size w w' := by
  by_cases g0 : g < 0
  · have H := Lib.hid (show rightP ⟨s, g, o, i, t, d⟩ = false by
      rw [Bool.eq_false_iff]
      intro h
      have h := (rightP_iff _).1 h
      have := h.g0; have := h.g1; have := h.n0; have := h.n1; have := h.t0; have := h.t1; have := h.i0; have := h.i1; have := h.d
      simp only at *
      omega)
    go_enter Try.func51, Try.ntmps51
    go_wp2_with fail
    go_ret
    exact ⟨ret_bool (by rw [H.out]), (Below.refl _ _).alloc (Nat.le_refl _) _⟩
  by_cases g1 : 2147483647 < g
  · have H := Lib.hid (show rightP ⟨s, g, o, i, t, d⟩ = false by
      rw [Bool.eq_false_iff]
      intro h
      have h := (rightP_iff _).1 h
      have := h.g0; have := h.g1; have := h.n0; have := h.n1; have := h.t0; have := h.t1; have := h.i0; have := h.i1; have := h.d
      simp only at *
      omega)
    go_enter Try.func51, Try.ntmps51
    go_wp2_with fail
    go_ret
    exact ⟨ret_bool (by rw [H.out]), (Below.refl _ _).alloc (Nat.le_refl _) _⟩
  by_cases n0 : o < 0
  · have H := Lib.hid (show rightP ⟨s, g, o, i, t, d⟩ = false by
      rw [Bool.eq_false_iff]
      intro h
      have h := (rightP_iff _).1 h
      have := h.g0; have := h.g1; have := h.n0; have := h.n1; have := h.t0; have := h.t1; have := h.i0; have := h.i1; have := h.d
      simp only at *
      omega)
    go_enter Try.func51, Try.ntmps51
    go_wp2_with fail
    go_ret
    exact ⟨ret_bool (by rw [H.out]), (Below.refl _ _).alloc (Nat.le_refl _) _⟩
  by_cases n1 : 65535 < o
  · have H := Lib.hid (show rightP ⟨s, g, o, i, t, d⟩ = false by
      rw [Bool.eq_false_iff]
      intro h
      have h := (rightP_iff _).1 h
      have := h.g0; have := h.g1; have := h.n0; have := h.n1; have := h.t0; have := h.t1; have := h.i0; have := h.i1; have := h.d
      simp only at *
      omega)
    go_enter Try.func51, Try.ntmps51
    go_wp2_with fail
    go_ret
    exact ⟨ret_bool (by rw [H.out]), (Below.refl _ _).alloc (Nat.le_refl _) _⟩
  by_cases i0 : i < 0
  · have H := Lib.hid (show rightP ⟨s, g, o, i, t, d⟩ = false by
      rw [Bool.eq_false_iff]
      intro h
      have h := (rightP_iff _).1 h
      have := h.g0; have := h.g1; have := h.n0; have := h.n1; have := h.t0; have := h.t1; have := h.i0; have := h.i1; have := h.d
      simp only at *
      omega)
    go_enter Try.func51, Try.ntmps51
    go_wp2_with fail
    go_ret
    exact ⟨ret_bool (by rw [H.out]), (Below.refl _ _).alloc (Nat.le_refl _) _⟩
  by_cases i1 : i < t
  rotate_left
  · have H := Lib.hid (show rightP ⟨s, g, o, i, t, d⟩ = false by
      rw [Bool.eq_false_iff]
      intro h
      have h := (rightP_iff _).1 h
      have := h.g0; have := h.g1; have := h.n0; have := h.n1; have := h.t0; have := h.t1; have := h.i0; have := h.i1; have := h.d
      simp only at *
      omega)
    go_enter Try.func51, Try.ntmps51
    go_wp2_with fail
    go_ret
    exact ⟨ret_bool (by rw [H.out]), (Below.refl _ _).alloc (Nat.le_refl _) _⟩
  by_cases t1 : 65535 < t
  · have H := Lib.hid (show rightP ⟨s, g, o, i, t, d⟩ = false by
      rw [Bool.eq_false_iff]
      intro h
      have h := (rightP_iff _).1 h
      have := h.g0; have := h.g1; have := h.n0; have := h.n1; have := h.t0; have := h.t1; have := h.i0; have := h.i1; have := h.d
      simp only at *
      omega)
    go_enter Try.func51, Try.ntmps51
    go_wp2_with fail
    go_ret
    exact ⟨ret_bool (by rw [H.out]), (Below.refl _ _).alloc (Nat.le_refl _) _⟩
  by_cases dd : d.size ≤ 37
  rotate_left
  · have H := Lib.hid (show rightP ⟨s, g, o, i, t, d⟩ = false by
      rw [Bool.eq_false_iff]
      intro h
      have h := (rightP_iff _).1 h
      have := h.g0; have := h.g1; have := h.n0; have := h.n1; have := h.t0; have := h.t1; have := h.i0; have := h.i1; have := h.d
      simp only at *
      omega)
    go_enter Try.func51, Try.ntmps51
    go_wp2_with fail
    go_ret
    exact ⟨ret_bool (by rw [H.out]; simp; omega), (Below.refl _ _).alloc (Nat.le_refl _) _⟩
  have H := Lib.hid (show rightP ⟨s, g, o, i, t, d⟩ = true from (rightP_iff _).2 ⟨by show 0 ≤ g; omega, by show g < 2147483648; omega, by show 0 ≤ o; omega, by show o < 65536; omega, by show 1 ≤ t; omega, by show t < 65536; omega, by show 0 ≤ i; omega, by show i < t; omega, dd⟩)
  go_enter Try.func51, Try.ntmps51
  go_wp2_with fail
  go_ret
  exact ⟨ret_bool (by rw [H.out]; simp; omega), (Below.refl _ _).alloc (Nat.le_refl _) _⟩

set_option maxHeartbeats 400000 in
set_option maxRecDepth 100000 in
theorem count_is (n : Int) (h0 : -9223372036854775808 ≤ n) (h1 : n ≤ 9223372036854775807) (w : World) :
    Calls Try.prog 39 #[.int .i64 n] w fun e w' => e = .returned (.int .i64 (cntI n)) ∧ w = w' := by
  go_enter Try.func39, Try.ntmps39
  go_wp2_with fail
  all_goals
    go_ret
    exact ⟨ret_int (by unfold cntI; split <;> omega), rfl⟩

set_option maxHeartbeats 400000 in
set_option maxRecDepth 100000 in
theorem last_is (s g o i t : Int) (d : ByteArray) (h0 : -9223372036854775808 < t) (h1 : t ≤ 9223372036854775807) (w : World) :
    Calls Try.prog 55 #[.agg #[.int .u64 s, .int .i64 g, .int .i64 o, .int .i64 i, .int .i64 t, .string d]] w fun e w' => e = .returned (.bool (decide (i = t - 1))) ∧ Below w.heap.size w w' := by
  go_enter Try.func55, Try.ntmps55
  go_wp2_with fail
  go_ret
  exact ⟨ret_bool (by rw [Bool.eq_iff_iff]; simp), (Below.refl _ _).alloc (Nat.le_refl _) _⟩
end Go.Proofs.Ytbdgmddlghhkjaa

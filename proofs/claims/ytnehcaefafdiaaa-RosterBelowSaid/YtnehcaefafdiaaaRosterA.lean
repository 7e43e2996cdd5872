/-
  What roster's small functions (there, Parts, People, Label, Part) answer. No conditions but how the roster lies in memory.
-/
import Derived.Test.YtnehcaefafdiaaaRosterP
import Derived.WalkKit
import Derived.Deep.QuietTactic
import Derived.BigQuiet
namespace Go.Proofs.Ytnehcaefafdiaaa
open Go.RowKit

/-- Is it a place of a list of n? -/
def thereB (p n : Int) : Bool := decide (0 ≤ p) && decide (p < n)
theorem there_nat {p : Int} {n : Nat} (h : thereB p n = true) : ∃ i : Nat, i < n ∧ p = i := by
  simp [thereB] at h
  exact ⟨p.toNat, by omega, by omega⟩
theorem there_of {i n : Nat} (h : i < n) : thereB i n = true := by simp [thereB, h]

set_option maxHeartbeats 400000 in
theorem there_is (p n : Int) (r : Bool) (hr : thereB p n = r) (w : World) :
    Calls Try.prog 29 #[.int .i64 p, .int .i64 n] w fun e w' => e = .returned (.bool r) ∧ w = w' := by
  have H := Lib.hid hr
  clear hr
  go_enter Try.func29, Try.ntmps29
  go_wp2
  all_goals
    go_ret
    exact ⟨ret_bool (by rw [← H.out]; simp [thereB]; try omega), rfl⟩

/-- A roster lies in block R: n labels, m principals. -/
def RosAt (w : World) (R n m : Nat) (lv st pt al au : Nat → Int) : Prop :=
  ∃ (A : Option Addr) (c : Nat) (B : Option Addr) (d : Nat), w.cell? ⟨R, 0, none⟩ = some (.slice A n c) ∧ w.cell? ⟨R, 1, none⟩ = some (.slice B m d) ∧ LabsAt w A n lv st ∧ PepsAt w B m pt al au ∧ n ≤ 4 ∧ m ≤ 12
theorem RosAt.later {w w' : World} {R n m : Nat} {lv st pt al au : Nat → Int} (h : RosAt w R n m lv st pt al au) (hb : Below w.heap.size w w') : RosAt w' R n m lv st pt al au := by
  obtain ⟨A, c, B, d, h1, h2, h3, h4, h5⟩ := h
  exact ⟨A, c, B, d, cell_later hb h1, cell_later hb h2, h3.later hb, h4.later hb, h5⟩
theorem RosAt.alloc {w : World} {R n m : Nat} {lv st pt al au : Nat → Int} (h : RosAt w R n m lv st pt al au) (o : Obj) : RosAt (w.alloc o) R n m lv st pt al au := by
  obtain ⟨A, c, B, d, h1, h2, h3, h4, h5⟩ := h
  exact ⟨A, c, B, d, cell_alloc h1, cell_alloc h2, h3.alloc o, h4.alloc o, h5⟩

set_option maxHeartbeats 400000 in
theorem parts_is {R n m : Nat} {lv st pt al au : Nat → Int} {w : World} (h : RosAt w R n m lv st pt al au) :
    Calls Try.prog 10 #[.pointer (some ⟨R, 0, none⟩)] w fun e w' => e = .returned (.int .i64 n) ∧ w = w' := by
  obtain ⟨A, c, B, d, h1, h2, h3, h4, h5⟩ := h
  go_enter Try.func10, Try.ntmps10
  go_wp2
  go_ret
  exact ⟨rfl, rfl⟩
set_option maxHeartbeats 400000 in
theorem parts_nil (w : World) : Calls Try.prog 10 #[.pointer none] w fun e w' => e = .returned (.int .i64 0) ∧ w = w' := by
  go_enter Try.func10, Try.ntmps10
  go_wp2
  go_ret
  exact ⟨rfl, rfl⟩

set_option maxHeartbeats 400000 in
theorem people_is {R n m : Nat} {lv st pt al au : Nat → Int} {w : World} (h : RosAt w R n m lv st pt al au) :
    Calls Try.prog 11 #[.pointer (some ⟨R, 0, none⟩)] w fun e w' => e = .returned (.int .i64 m) ∧ w = w' := by
  obtain ⟨A, c, B, d, h1, h2, h3, h4, h5⟩ := h
  go_enter Try.func11, Try.ntmps11
  go_wp2
  go_ret
  exact ⟨rfl, rfl⟩
set_option maxHeartbeats 400000 in
theorem people_nil (w : World) : Calls Try.prog 11 #[.pointer none] w fun e w' => e = .returned (.int .i64 0) ∧ w = w' := by
  go_enter Try.func11, Try.ntmps11
  go_wp2
  go_ret
  exact ⟨rfl, rfl⟩

/-- A partition's level, or its set; 0: there is none. -/
def labV (n : Nat) (lv : Nat → Int) (p : Int) : Int := if thereB p n then lv p.toNat else 0
/-- A principal's partition; -1: there is none. -/
def partV (m : Nat) (pt : Nat → Int) (who : Int) : Int := if thereB who m then pt who.toNat else -1

set_option maxHeartbeats 400000 in
theorem label_is {R n m : Nat} {lv st pt al au : Nat → Int} {w : World} (h : RosAt w R n m lv st pt al au) (p : Int) :
    Calls Try.prog 12 #[.pointer (some ⟨R, 0, none⟩), .int .i64 p] w fun e w' => e = .returned (.tuple #[.agg #[.int .i64 (labV n lv p), .int .u16 (labV n st p)], .bool (thereB p n)]) ∧ Below w.heap.size w w' := by
  cases hp : thereB p n
  · have H1 := Lib.hid (show labV n lv p = 0 by simp [labV, hp])
    have H2 := Lib.hid (show labV n st p = 0 by simp [labV, hp])
    have HR := Lib.hid h
    clear h
    go_enter Try.func12, Try.ntmps12
    go_wp2_with (first | (go_at_call 10; refine (parts_is (HR.out.alloc _)).mono ?_; rintro e w' ⟨rfl, rfl⟩) | (go_at_call 29; refine (there_is _ _ false hp _).mono ?_; rintro e w' ⟨rfl, rfl⟩))
    refine bodyPost_ret (v := .tuple #[.agg #[.int .i64 (labV n lv p), .int .u16 (labV n st p)], .bool false]) (by rw [H1.out, H2.out]; simp [results, Try.results12, go_sem]) rfl ⟨rfl, ?_⟩
    exact (Below.refl _ _).alloc (Nat.le_refl _) _
  · obtain ⟨i, hi, rfl⟩ := there_nat hp
    have H1 := Lib.hid (show labV n lv i = lv i by simp [labV, hp])
    have H2 := Lib.hid (show labV n st i = st i by simp [labV, hp])
    have HR := Lib.hid h
    obtain ⟨A, c, B, d, h1, h2, h3, h4, h5, h6⟩ := h.alloc (.cells #[.int .i64 0, .int .u16 0] 26)
    obtain ⟨ad, rfl, c0, c1⟩ := h3.at_ hi
    clear h h2 h3 h4
    go_enter Try.func12, Try.ntmps12
    go_wp2_with (first | (go_at_call 10; refine (parts_is (HR.out.alloc _)).mono ?_; rintro e w' ⟨rfl, rfl⟩) | (go_at_call 29; refine (there_is _ _ true hp _).mono ?_; rintro e w' ⟨rfl, rfl⟩))
    refine bodyPost_ret (v := .tuple #[.agg #[.int .i64 (labV n lv i), .int .u16 (labV n st i)], .bool true]) (by rw [H1.out, H2.out]; simp [results, Try.results12, go_sem]) rfl ⟨rfl, ?_⟩
    exact (Below.refl _ _).alloc (Nat.le_refl _) _
set_option maxHeartbeats 400000 in
theorem label_nil (p : Int) (w : World) :
    Calls Try.prog 12 #[.pointer none, .int .i64 p] w fun e w' => e = .returned (.tuple #[.agg #[.int .i64 0, .int .u16 0], .bool false]) ∧ Below w.heap.size w w' := by
  have hp : thereB p 0 = false := by simp [thereB]
  go_enter Try.func12, Try.ntmps12
  go_wp2_with (first | (go_at_call 10; refine (parts_nil _).mono ?_; rintro e w' ⟨rfl, rfl⟩) | (go_at_call 29; refine (there_is _ _ false hp _).mono ?_; rintro e w' ⟨rfl, rfl⟩))
  refine bodyPost_ret (v := .tuple #[.agg #[.int .i64 0, .int .u16 0], .bool false]) (by simp [results, Try.results12, go_sem]) rfl ⟨rfl, ?_⟩
  exact (Below.refl _ _).alloc (Nat.le_refl _) _

theorem ret_int {k : IntKind} {a b : Int} (h : a = b) : Ending.returned (.int k a) = .returned (.int k b) := by rw [h]

set_option maxHeartbeats 400000 in
theorem part_is {R n m : Nat} {lv st pt al au : Nat → Int} {w : World} (h : RosAt w R n m lv st pt al au) (p : Int) :
    Calls Try.prog 13 #[.pointer (some ⟨R, 0, none⟩), .int .i64 p] w fun e w' => e = .returned (.int .i64 (partV m pt p)) ∧ w = w' := by
  cases hp : thereB p m
  · have H1 := Lib.hid (show partV m pt p = -1 by simp [partV, hp])
    have HR := Lib.hid h
    clear h
    go_enter Try.func13, Try.ntmps13
    go_wp2_with (first | (go_at_call 11; refine (people_is HR.out).mono ?_; rintro e w' ⟨rfl, rfl⟩) | (go_at_call 29; refine (there_is _ _ false hp _).mono ?_; rintro e w' ⟨rfl, rfl⟩))
    go_ret
    exact ⟨ret_int H1.out.symm, rfl⟩
  · obtain ⟨i, hi, rfl⟩ := there_nat hp
    have H1 := Lib.hid (show partV m pt i = pt i by simp [partV, hp])
    have HR := Lib.hid h
    obtain ⟨A, c, B, d, h1, h2, h3, h4, h5, h6⟩ := h
    obtain ⟨ad, rfl, c0, c1, c2⟩ := h4.at_ hi
    clear h1 h3 h4
    go_enter Try.func13, Try.ntmps13
    go_wp2_with (first | (go_at_call 11; refine (people_is HR.out).mono ?_; rintro e w' ⟨rfl, rfl⟩) | (go_at_call 29; refine (there_is _ _ true hp _).mono ?_; rintro e w' ⟨rfl, rfl⟩))
    go_ret
    exact ⟨ret_int H1.out.symm, rfl⟩
set_option maxHeartbeats 400000 in
theorem part_nil (p : Int) (w : World) :
    Calls Try.prog 13 #[.pointer none, .int .i64 p] w fun e w' => e = .returned (.int .i64 (-1)) ∧ w = w' := by
  have hp : thereB p 0 = false := by simp [thereB]
  go_enter Try.func13, Try.ntmps13
  go_wp2_with (first | (go_at_call 11; refine (people_nil _).mono ?_; rintro e w' ⟨rfl, rfl⟩) | (go_at_call 29; refine (there_is _ _ false hp _).mono ?_; rintro e w' ⟨rfl, rfl⟩))
  go_ret
  exact ⟨rfl, rfl⟩

end Go.Proofs.Ytnehcaefafdiaaa

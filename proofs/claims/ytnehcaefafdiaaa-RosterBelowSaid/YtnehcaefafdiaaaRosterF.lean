/-
  What roster.New answers. No conditions but how the lists lie in memory.
-/
import Derived.Test.YtnehcaefafdiaaaRosterE
import Derived.WalkKit
namespace Go.Proofs.Ytnehcaefafdiaaa
open Go.RowKit

section
variable {A B : Option Addr} {n m c d : Nat} {lv st pt al au : Nat → Int} {w : World}

theorem fault_is (hl : LabsAt w A n lv st) (hp : PepsAt w B m pt al au) (hc : n ≤ c) :
    Calls Try.prog 25 #[.slice A n c, .slice B m d] w fun e w' => e = .returned (.int .i64 (faultV n m lv st pt al)) ∧ Below w.heap.size w w' := by
  by_cases h : n = 0 ∨ 4 < n ∨ 12 < m
  · rw [faultV_len lv st pt al h]
    exact fault_len h
  · exact fault_all hl hp hc (by omega) (by omega) (by omega)

theorem faultV_ok (h : faultV n m lv st pt al = 0) : 0 < n ∧ n ≤ 4 ∧ m ≤ 12 := by
  unfold faultV at h
  split at h
  · cases h
  · omega

/-- New's answer: the roster, in a new block, if nothing is wrong; else none, and why. -/
def NewOut (w : World) (n m : Nat) (lv st pt al au : Nat → Int) (e : Ending) (w' : World) : Prop :=
  Below w.heap.size w w' ∧ ((faultV n m lv st pt al ≠ 0 ∧ e = .returned (.tuple #[.pointer none, .int .i64 (faultV n m lv st pt al)])) ∨
    (faultV n m lv st pt al = 0 ∧ ∃ R, e = .returned (.tuple #[.pointer (some ⟨R, 0, none⟩), .int .i64 0]) ∧ RosAt w' R n m lv st pt al au))

set_option maxHeartbeats 400000 in
theorem new_no (hl : LabsAt w A n lv st) (hp : PepsAt w B m pt al au) (hc : n ≤ c) (h : faultV n m lv st pt al ≠ 0) :
    Calls Try.prog 8 #[.slice A n c, .slice B m d] w fun e w' => e = .returned (.tuple #[.pointer none, .int .i64 (faultV n m lv st pt al)]) ∧ Below w.heap.size w w' := by
  have hf := Lib.hid (fault_is (d := d) hl hp hc)
  generalize faultV n m lv st pt al = r at hf h ⊢
  have hr : (r != 0) = true := by simpa using h
  clear hl hp h
  go_enter Try.func8, Try.ntmps8
  go_wp2_with (go_at_call 25; refine hf.out.mono ?_; rintro e w1 ⟨rfl, hb⟩)
  go_ret2
  exact ⟨rfl, hb⟩

set_option maxHeartbeats 400000 in
theorem new_yes (hl : LabsAt w A n lv st) (hp : PepsAt w B m pt al au) (hc : n ≤ c) (ha : A = none → n = 0) (hb : B = none → m = 0) (h : faultV n m lv st pt al = 0) :
    Calls Try.prog 8 #[.slice A n c, .slice B m d] w fun e w' => (∃ R, e = .returned (.tuple #[.pointer (some ⟨R, 0, none⟩), .int .i64 0]) ∧ RosAt w' R n m lv st pt al au) ∧ Below w.heap.size w w' := by
  obtain ⟨h1, h4, h12⟩ := faultV_ok h
  have hf := fault_is (d := d) hl hp hc
  rw [h] at hf
  have hf := Lib.hid hf
  have n4 : n ≤ 64 := by omega
  have m4 : m ≤ 64 := by omega
  have HA := Lib.hid ha
  have HB := Lib.hid hb
  clear h ha hb
  go_enter Try.func8, Try.ntmps8
  go_wp2_with fail
  refine hf.out.mono ?_
  rintro e w1 ⟨rfl, hb1⟩
  replace hl := hl.later hb1
  replace hp := hp.later hb1
  go_wp2_with fail
  refine (cloneL_is hl n4 HA.out).mono ?_
  rintro e w2 ⟨A2, c2, rfl, hc2, hl2, hb2⟩
  replace hp := hp.later hb2
  go_wp2_with fail
  refine (cloneP_is hp m4 HB.out).mono ?_
  rintro e w3 ⟨B3, d3, rfl, hd3, hp3, hb3⟩
  replace hl2 := hl2.later hb3
  go_wp2_with fail
  go_ret2
  refine ⟨⟨w3.heap.size, rfl, A2, c2, B3, d3, by simp [go_sem], by simp [go_sem], hl2.alloc _, hp3.alloc _, h4, h12⟩, ?_⟩
  exact (below_step (below_step hb1 hb2) hb3).alloc (below_step (below_step hb1 hb2) hb3).size _

theorem new_is (hl : LabsAt w A n lv st) (hp : PepsAt w B m pt al au) (hc : n ≤ c) (ha : A = none → n = 0) (hb : B = none → m = 0) :
    Calls Try.prog 8 #[.slice A n c, .slice B m d] w (NewOut w n m lv st pt al au) := by
  by_cases h : faultV n m lv st pt al = 0
  · exact (new_yes hl hp hc ha hb h).mono fun e w' ⟨hr, hb⟩ => ⟨hb, .inr ⟨h, hr⟩⟩
  · exact (new_no hl hp hc h).mono fun e w' ⟨hr, hb⟩ => ⟨hb, .inl ⟨h, hr⟩⟩

end
end Go.Proofs.Ytnehcaefafdiaaa

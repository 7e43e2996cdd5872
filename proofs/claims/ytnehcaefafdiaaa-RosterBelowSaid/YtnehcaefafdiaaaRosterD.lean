/-
  What roster.fault answers: why there is no such roster. No conditions but how the lists lie in memory.
-/
import Derived.Test.YtnehcaefafdiaaaRosterC
import Derived.WalkKit
import Derived.Laws.EntriesVeiled
namespace Go.Proofs.Ytnehcaefafdiaaa
open Go.RowKit

/-- Why there is no such roster; 0: there is one. -/
def faultV (n m : Nat) (lv st pt al : Nat → Int) : Int :=
  if n = 0 ∨ 4 < n ∨ 12 < m then 1 else if anyN (fun i => !rightB (lv i)) n then 1 else if anyN (fun i => !rightB (al i)) m then 1
  else if twiceB n lv st then 7 else if anyN (fun i => !thereB (pt i) n) m then 2 else 0

theorem faultV_len {n m : Nat} (lv st pt al : Nat → Int) (h : n = 0 ∨ 4 < n ∨ 12 < m) : faultV n m lv st pt al = 1 := by
  unfold faultV; rw [if_pos h]

theorem hmf (fn : Fn) (first cap : Array Value) (w : World) : (Instr.makeFunc fn first cap).run Try.prog w = .ok (.func fn first cap) w := rfl
attribute [local go_sem] hmf

section
variable {A B : Option Addr} {n m c d : Nat} {lv st pt al au : Nat → Int} {w : World}

set_option maxHeartbeats 400000 in
theorem fault_len (h : n = 0 ∨ 4 < n ∨ 12 < m) :
    Calls Try.prog 25 #[.slice A n c, .slice B m d] w fun e w' => e = .returned (.int .i64 1) ∧ Below w.heap.size w w' := by
  by_cases h0 : n = 0
  · subst h0
    clear h
    go_enter Try.func25, Try.ntmps25
    go_wp2
    go_ret
    refine ⟨rfl, ?_⟩
    exact (((Below.refl _ _).alloc (Nat.le_refl _) _).alloc (by simp) _)
  by_cases h4 : 4 < n
  · have hz : (n == 0) = false := by simp; omega
    clear h
    go_enter Try.func25, Try.ntmps25
    go_wp2
    go_ret
    refine ⟨rfl, ?_⟩
    exact (((Below.refl _ _).alloc (Nat.le_refl _) _).alloc (by simp) _)
  · have h12 : 12 < m := by omega
    have hz : (n == 0) = false := by simp; omega
    clear h
    go_enter Try.func25, Try.ntmps25
    go_wp2
    go_ret
    refine ⟨rfl, ?_⟩
    exact (((Below.refl _ _).alloc (Nat.le_refl _) _).alloc (by simp) _)

/-- The world once fault's three closures are made. -/
abbrev faultW (w : World) (A : Option Addr) (n c : Nat) : World :=
  (w.alloc (.cells #[.slice A n c] 22)).alloc (.cells #[.func (.func 36) #[] #[]] 61)

set_option maxHeartbeats 1000000 in
theorem fault_all (hl : LabsAt w A n lv st) (hp : PepsAt w B m pt al au) (hc : n ≤ c) (h1 : 0 < n) (h4 : n ≤ 4) (h12 : m ≤ 12) :
    Calls Try.prog 25 #[.slice A n c, .slice B m d] w fun e w' => e = .returned (.int .i64 (faultV n m lv st pt al)) ∧ Below w.heap.size w w' := by
  have hz : (n == 0) = false := by simp; omega
  have hB0 : Below w.heap.size w (faultW w A n c) := ((Below.refl _ _).alloc (Nat.le_refl _) _).alloc (by simp) _
  have hl0 : LabsAt (faultW w A n c) A n lv st := hl.later hB0
  have hp0 : PepsAt (faultW w A n c) B m pt al au := hp.later hB0
  have cs0 : (faultW w A n c).cell? ⟨w.heap.size, 0, none⟩ = some (.slice A n c) := by simp [go_sem]
  have cf0 : (faultW w A n c).cell? ⟨w.heap.size + 1, 0, none⟩ = some (.func (.func 36) #[] #[]) := by simp [go_sem]
  have H0 := Lib.hid (show faultV n m lv st pt al = if anyN (fun i => !rightB (lv i)) n then 1 else if anyN (fun i => !rightB (al i)) m then 1
    else if twiceB n lv st then 7 else if anyN (fun i => !thereB (pt i) n) m then 2 else 0 by unfold faultV; rw [if_neg (by omega)])
  generalize hr : faultV n m lv st pt al = r at H0 ⊢
  clear hr hl hp
  have n4 : n ≤ 64 := by omega
  have m4 : m ≤ 64 := by omega
  cases k1 : anyN (fun i => !rightB (lv i)) n
  · cases k2 : anyN (fun i => !rightB (al i)) m
    · cases k3 : twiceB n lv st
      · cases k4 : anyN (fun i => !thereB (pt i) n) m
        · have hr : r = 0 := by have := H0.out; rw [k1, k2, k3, k4] at this; simpa using this
          clear H0
          subst hr
          go_enter Try.func25, Try.ntmps25
          go_wp2_with fail
          refine (hasL hl0 n4).mono ?_
          rintro e w1 ⟨rfl, hb1⟩
          rw [k1]
          have hB1 := below_step hB0 hb1
          have hl1 := hl0.later hb1
          have hp1 := hp0.later hb1
          have cs1 := cell_later hb1 cs0
          have cf1 := cell_later hb1 cf0
          clear hb1 hB0 hl0 hp0 cs0 cf0
          go_wp2_with fail
          refine (hasA hp1 m4 cf1).mono ?_
          rintro e w2 ⟨rfl, hb2⟩
          rw [k2]
          have hB2 := below_step hB1 hb2
          have hl2 := hl1.later hb2
          have hp2 := hp1.later hb2
          have cs2 := cell_later hb2 cs1
          have cf2 := cell_later hb2 cf1
          clear hb2 hB1 hl1 hp1 cs1 cf1
          go_wp2_with fail
          refine (twice_is hl2 n4 hc).mono ?_
          rintro e w3 ⟨rfl, hb3⟩
          rw [k3]
          have hB3 := below_step hB2 hb3
          have hl3 := hl2.later hb3
          have hp3 := hp2.later hb3
          have cs3 := cell_later hb3 cs2
          have cf3 := cell_later hb3 cf2
          clear hb3 hB2 hl2 hp2 cs2 cf2
          go_wp2_with fail
          refine (hasP hp3 m4 cs3).mono ?_
          rintro e w4 ⟨rfl, hb4⟩
          rw [k4]
          have hB4 := below_step hB3 hb4
          have hl4 := hl3.later hb4
          have hp4 := hp3.later hb4
          have cs4 := cell_later hb4 cs3
          have cf4 := cell_later hb4 cf3
          clear hb4 hB3 hl3 hp3 cs3 cf3
          go_wp2_with fail
          go_ret
          exact ⟨rfl, hB4⟩
        · have hr : r = 2 := by have := H0.out; rw [k1, k2, k3, k4] at this; simpa using this
          clear H0
          subst hr
          go_enter Try.func25, Try.ntmps25
          go_wp2_with fail
          refine (hasL hl0 n4).mono ?_
          rintro e w1 ⟨rfl, hb1⟩
          rw [k1]
          have hB1 := below_step hB0 hb1
          have hl1 := hl0.later hb1
          have hp1 := hp0.later hb1
          have cs1 := cell_later hb1 cs0
          have cf1 := cell_later hb1 cf0
          clear hb1 hB0 hl0 hp0 cs0 cf0
          go_wp2_with fail
          refine (hasA hp1 m4 cf1).mono ?_
          rintro e w2 ⟨rfl, hb2⟩
          rw [k2]
          have hB2 := below_step hB1 hb2
          have hl2 := hl1.later hb2
          have hp2 := hp1.later hb2
          have cs2 := cell_later hb2 cs1
          have cf2 := cell_later hb2 cf1
          clear hb2 hB1 hl1 hp1 cs1 cf1
          go_wp2_with fail
          refine (twice_is hl2 n4 hc).mono ?_
          rintro e w3 ⟨rfl, hb3⟩
          rw [k3]
          have hB3 := below_step hB2 hb3
          have hl3 := hl2.later hb3
          have hp3 := hp2.later hb3
          have cs3 := cell_later hb3 cs2
          have cf3 := cell_later hb3 cf2
          clear hb3 hB2 hl2 hp2 cs2 cf2
          go_wp2_with fail
          refine (hasP hp3 m4 cs3).mono ?_
          rintro e w4 ⟨rfl, hb4⟩
          rw [k4]
          have hB4 := below_step hB3 hb4
          have hl4 := hl3.later hb4
          have hp4 := hp3.later hb4
          have cs4 := cell_later hb4 cs3
          have cf4 := cell_later hb4 cf3
          clear hb4 hB3 hl3 hp3 cs3 cf3
          go_wp2_with fail
          go_ret
          exact ⟨rfl, hB4⟩
      · have hr : r = 7 := by have := H0.out; rw [k1, k2, k3] at this; simpa using this
        clear H0
        subst hr
        go_enter Try.func25, Try.ntmps25
        go_wp2_with fail
        refine (hasL hl0 n4).mono ?_
        rintro e w1 ⟨rfl, hb1⟩
        rw [k1]
        have hB1 := below_step hB0 hb1
        have hl1 := hl0.later hb1
        have hp1 := hp0.later hb1
        have cs1 := cell_later hb1 cs0
        have cf1 := cell_later hb1 cf0
        clear hb1 hB0 hl0 hp0 cs0 cf0
        go_wp2_with fail
        refine (hasA hp1 m4 cf1).mono ?_
        rintro e w2 ⟨rfl, hb2⟩
        rw [k2]
        have hB2 := below_step hB1 hb2
        have hl2 := hl1.later hb2
        have hp2 := hp1.later hb2
        have cs2 := cell_later hb2 cs1
        have cf2 := cell_later hb2 cf1
        clear hb2 hB1 hl1 hp1 cs1 cf1
        go_wp2_with fail
        refine (twice_is hl2 n4 hc).mono ?_
        rintro e w3 ⟨rfl, hb3⟩
        rw [k3]
        have hB3 := below_step hB2 hb3
        have hl3 := hl2.later hb3
        have hp3 := hp2.later hb3
        have cs3 := cell_later hb3 cs2
        have cf3 := cell_later hb3 cf2
        clear hb3 hB2 hl2 hp2 cs2 cf2
        go_wp2_with fail
        go_ret
        exact ⟨rfl, hB3⟩
    · have hr : r = 1 := by have := H0.out; rw [k1, k2] at this; simpa using this
      clear H0
      subst hr
      go_enter Try.func25, Try.ntmps25
      go_wp2_with fail
      refine (hasL hl0 n4).mono ?_
      rintro e w1 ⟨rfl, hb1⟩
      rw [k1]
      have hB1 := below_step hB0 hb1
      have hl1 := hl0.later hb1
      have hp1 := hp0.later hb1
      have cs1 := cell_later hb1 cs0
      have cf1 := cell_later hb1 cf0
      clear hb1 hB0 hl0 hp0 cs0 cf0
      go_wp2_with fail
      refine (hasA hp1 m4 cf1).mono ?_
      rintro e w2 ⟨rfl, hb2⟩
      rw [k2]
      have hB2 := below_step hB1 hb2
      have hl2 := hl1.later hb2
      have hp2 := hp1.later hb2
      have cs2 := cell_later hb2 cs1
      have cf2 := cell_later hb2 cf1
      clear hb2 hB1 hl1 hp1 cs1 cf1
      go_wp2_with fail
      go_ret
      exact ⟨rfl, hB2⟩
  · have hr : r = 1 := by have := H0.out; rw [k1] at this; simpa using this
    clear H0
    subst hr
    go_enter Try.func25, Try.ntmps25
    go_wp2_with fail
    refine (hasL hl0 n4).mono ?_
    rintro e w1 ⟨rfl, hb1⟩
    rw [k1]
    have hB1 := below_step hB0 hb1
    have hl1 := hl0.later hb1
    have hp1 := hp0.later hb1
    have cs1 := cell_later hb1 cs0
    have cf1 := cell_later hb1 cf0
    clear hb1 hB0 hl0 hp0 cs0 cf0
    go_wp2_with fail
    go_ret
    exact ⟨rfl, hB1⟩

end
end Go.Proofs.Ytnehcaefafdiaaa

/-
  What a roster's Sees, May, Find answer. No conditions but how the roster lies in memory.
-/
import Derived.Test.YtnehcaefafdiaaaRosterF
import Derived.WalkKit
namespace Go.Proofs.Ytnehcaefafdiaaa
open Go.RowKit

/-- May a principal read there? -/
def seesB (n m : Nat) (lv st pt : Nat → Int) (who part : Int) : Bool :=
  thereB (partV m pt who) n && (thereB part n && leqB (labV n lv part) (labV n st part) (labV n lv (partV m pt who)) (labV n st (partV m pt who)))
/-- May one let something of its partition go to a label? -/
def mayB (n m : Nat) (lv st pt al au : Nat → Int) (who l s : Int) : Bool :=
  thereB (partV m pt who) n && leqB (offL (labV n lv (partV m pt who)) l) (offS (labV n st (partV m pt who)) s) (al who.toNat) (au who.toNat)

section
variable {R n m : Nat} {lv st pt al au : Nat → Int} {w : World}

set_option maxHeartbeats 1000000 in
theorem sees_is (h : RosAt w R n m lv st pt al au) (who part : Int) :
    Calls Try.prog 14 #[.pointer (some ⟨R, 0, none⟩), .int .i64 who, .int .i64 part] w fun e w' => e = .returned (.bool (seesB n m lv st pt who part)) ∧ Below w.heap.size w w' := by
  have HV := Lib.hid (show seesB n m lv st pt who part = (thereB (partV m pt who) n && (thereB part n && leqB (labV n lv part) (labV n st part) (labV n lv (partV m pt who)) (labV n st (partV m pt who)))) from rfl)
  have HR := Lib.hid h
  clear h
  generalize hv : seesB n m lv st pt who part = v at HV ⊢
  generalize ho : partV m pt who = own at HV
  have HO := Lib.hid ho
  have hL : ∀ W, RosAt W R n m lv st pt al au → ∀ p : Int, Calls Try.prog 12 #[.pointer (some ⟨R, 0, none⟩), .int .i64 p] W fun e w' => e = .returned (.tuple #[.agg #[.int .i64 (labV n lv p), .int .u16 (labV n st p)], .bool (thereB p n)]) ∧ Below W.heap.size W w' := fun W hW p => label_is hW p
  have HL := Lib.hid hL
  clear hv ho hL
  cases t1 : thereB own n <;> cases t2 : thereB part n
  all_goals
    have hv := HV.out
    rw [t1, t2] at hv
    simp only [Bool.false_and, Bool.and_false, Bool.true_and] at hv
    subst hv
    go_enter Try.func14, Try.ntmps14
    go_wp2_with fail
    refine (part_is HR.out _).mono ?_
    rintro e w0 ⟨rfl, rfl⟩
    rw [HO.out]
    go_wp2_with fail
    refine (HL.out _ HR.out own).mono ?_
    rintro e w1 ⟨rfl, hb1⟩
    rw [t1]
    have hr1 := Lib.hid ((HR.out.later hb1).alloc (.cells #[.int .i64 (labV n lv own), .int .u16 (labV n st own)] 26))
    go_wp2_with fail
    refine (HL.out _ hr1.out part).mono ?_
    rintro e w2 ⟨rfl, hb2⟩
    rw [t2]
    have c0 : w2.cell? ⟨w1.heap.size, 0, none⟩ = some (.int .i64 (labV n lv own)) := cell_later hb2 (by simp [go_sem])
    have c1 : w2.cell? ⟨w1.heap.size, 1, none⟩ = some (.int .u16 (labV n st own)) := cell_later hb2 (by simp [go_sem])
    have d0 : (w2.alloc (.cells #[.int .i64 (labV n lv part), .int .u16 (labV n st part)] 26)).cell? ⟨w1.heap.size, 0, none⟩ = some (.int .i64 (labV n lv own)) := cell_alloc c0
    have d1 : (w2.alloc (.cells #[.int .i64 (labV n lv part), .int .u16 (labV n st part)] 26)).cell? ⟨w1.heap.size, 1, none⟩ = some (.int .u16 (labV n st own)) := cell_alloc c1
    have hB : Below w.heap.size w (w2.alloc (.cells #[.int .i64 (labV n lv part), .int .u16 (labV n st part)] 26)) := by
      have hB2 := below_step (hb1.alloc hb1.size (.cells #[.int .i64 (labV n lv own), .int .u16 (labV n st own)] 26)) hb2
      exact hB2.alloc hB2.size _
    clear c0 c1 hb1 hb2
    go_wp2_with (go_at_call 30; refine (leq_is _ _ _ _ _ rfl _).mono ?_; rintro e w3 ⟨rfl, hb3⟩; replace hB := below_step hB hb3)
    go_ret
    exact ⟨rfl, hB⟩

set_option maxHeartbeats 400000 in
theorem sees_nil (who part : Int) (w : World) :
    Calls Try.prog 14 #[.pointer none, .int .i64 who, .int .i64 part] w fun e w' => e = .returned (.bool false) ∧ Below w.heap.size w w' := by
  go_enter Try.func14, Try.ntmps14
  go_wp2_with fail
  refine (part_nil _ _).mono ?_
  rintro e w0 ⟨rfl, rfl⟩
  go_wp2_with fail
  refine (label_nil _ _).mono ?_
  rintro e w1 ⟨rfl, hb1⟩
  have hB1 := hb1.alloc hb1.size (.cells #[.int .i64 0, .int .u16 0] 26)
  clear hb1
  go_wp2_with fail
  refine (label_nil _ _).mono ?_
  rintro e w2 ⟨rfl, hb2⟩
  have hB2 := below_step hB1 hb2
  have hB3 := hB2.alloc hB2.size (.cells #[.int .i64 0, .int .u16 0] 26)
  clear hb2 hB1 hB2
  go_wp2_with fail
  go_ret
  exact ⟨rfl, hB3⟩

end
end Go.Proofs.Ytnehcaefafdiaaa

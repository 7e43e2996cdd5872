/-
  The program's Name, Number and Label. Conditions: lengths; what the library's variables hold.
-/
import Derived.Test.YtcddbpdebklhnaaGreatDoorLexJ
import Derived.Test.YtcddbpdebklhnaaGreatDoorPhaseB
namespace Go.Proofs.YtcddbpdebklhnaaGreatDoor
open Go.RowKit Go.Shelf

/-- The greater one, kept whole in a walk. -/
def maxI (x y : Int) : Int := if y > x then y else x
@[go_sem ↓] theorem run_maxI {P : Program} (w : World) (ts : Array TypeId) (t : TypeId) (k k' : IntKind) (x y : Int) : (Builtin.max_ ts t #[.int k x, .int k' y]).run P w = .ok (.int k (maxI x y)) w := run_max_int2 (w := w) ts t k k' x y
theorem maxI_low {n lo : Int} : n < maxI lo 0 ↔ n < 0 ∨ n < lo := by
  unfold maxI
  split <;> omega

theorem ba_beq (s t : ByteArray) : (s.toList == t.toList) = decide (s = t) := by
  have e : ∀ x : ByteArray, x.toList = x.data.toList := fun x => Go.ByteArray.toList_eq x
  rw [Bool.eq_iff_iff]
  simp only [beq_iff_eq, decide_eq_true_eq, e]
  constructor
  · intro h
    exact ByteArray.ext (Array.toList_inj.1 h)
  · intro h
    rw [h]

set_option maxHeartbeats 1000000 in
set_option maxRecDepth 100000 in
theorem name_is (w : World) (t : ByteArray) (p : Int) : Calls Tryz.prog 69 #[wdV t p] w (OneOut w (if nameP t then some (.string t) else none) (.string ⟨#[]⟩) 15 p) := by
  have HIS := Lib.hid (fun A : World => isname_is t A)
  by_cases hnm : nameP t = true
  · have ht : t.size ≤ 8 := (of_decide_eq_true hnm).2.1
    have HO := Lib.hid (fun A : World => own_is A t p (by omega))
    rw [hnm] at HIS
    rw [if_pos hnm]
    clear hnm
    go_enter Tryz.func69, Tryz.ntmps69
    go_wp2_with fail
    refine (HIS.out _).mono ?_
    rintro e w1 ⟨rfl, rfl⟩
    go_wp2_with fail
    refine (HO.out _).mono ?_
    rintro e w2 ⟨rfl, hb⟩
    have HB := Lib.hid (below_step ((Below.refl w.heap.size w).alloc (Nat.le_refl _) (.cells #[.string t, .int .i64 p] 126)) hb)
    clear hb
    dsimp only [wdV]
    have hfd : ∀ W : World, (Instr.field 126 (.agg #[.string t, .int .i64 p]) 0).run Tryz.prog W = .ok (.string t) W := fun _ => by kernel_rfl
    go_wp2_with fail
    go_ret2
    exact ⟨HB.out, rfl⟩
  · have hnm := Bool.eq_false_iff.2 hnm
    have HF := Lib.hid (fun A : World => fault_is A p 15)
    rw [hnm] at HIS
    rw [hnm]
    clear hnm
    go_enter Tryz.func69, Tryz.ntmps69
    go_wp2_with fail
    refine (HIS.out _).mono ?_
    rintro e w1 ⟨rfl, rfl⟩
    go_wp2_with fail
    refine (HF.out _).mono ?_
    rintro e w2 ⟨F, rfl, hF, _, hb⟩
    have HB := Lib.hid (below_step ((Below.refl w.heap.size w).alloc (Nat.le_refl _) (.cells #[.string t, .int .i64 p] 126)) hb)
    have HFA := Lib.hid hF
    clear hb hF
    unfold fltV
    go_wp2_with fail
    go_ret2
    exact ⟨HB.out, F, rfl, HFA.out⟩

end Go.Proofs.YtcddbpdebklhnaaGreatDoor

/-
  What the program's order answers, in the law's bundle; the first line of the law. No conditions.
-/
import Derived.Test.YtpndjeccfdcjpaaOrdG
import Derived.Test.YtpndjeccfdcjpaaOrdW
import Derived.Test.YtpndjeccfdcjpaaOrdAw
namespace Go.Proofs.Ytpndjeccfdcjpaa
open Go.RowKit

theorem ord_ok : OrdOk longP roundP where
  long := fun hA hp _ => olong_is hA hp
  round := fun hA hp _ => oround_is hA hp
  ready := fun hA hp _ hD _ _ => oready_is hA hp hD
  few := fun _ _ => longP_few _
  flat := fun _ hp hf => longP_flat hp.few.1 hf
  one := fun _ _ hf _ => longP_one hf
theorem aw_task {n : Nat} {t : TkP} (h1 : nameOk t.name) (h2 : t.time = 1 ∧ t.retry = 0 ∧ t.need = 0 ∧ t.lv = 0 ∧ t.st = 0) (h3 : (∀ j ∈ t.after, j < n) ∧ t.after.Nodup) : TaskOk n t := by
  obtain ⟨a, b, c, d, e⟩ := h2
  exact ⟨h1, by omega, by omega, by omega, by omega, fun _ => ⟨d, e⟩, fun h => by omega, h3⟩
theorem aw3_right : RightPi ⟨awN, aw3⟩ := ⟨by decide, by decide, fun t ht => by
  simp only [aw3, List.mem_cons, List.not_mem_nil, or_false] at ht
  rcases ht with rfl | rfl | rfl <;> exact aw_task (by decide) (by decide) (by decide), by decide⟩
theorem aw2_right : RightPi ⟨awN, aw2⟩ := ⟨by decide, by decide, fun t ht => by
  simp only [aw2, List.mem_cons, List.not_mem_nil, or_false] at ht
  rcases ht with rfl | rfl <;> exact aw_task (by decide) (by decide) (by decide), by decide⟩
theorem aw3_order : orderP ⟨awN, aw3⟩ = some [0, 1, 2] := by decide
theorem aw2_order : orderP ⟨awN, aw2⟩ = none := by decide
theorem aw3_round : roundP ⟨awN, aw3⟩ = -1 := by decide
theorem aw2_round : roundP ⟨awN, aw2⟩ = 0 := by decide
theorem aw3_long : longP ⟨awN, aw3⟩ = 3 := by decide
theorem aw2_long : longP ⟨awN, aw2⟩ = 0 := by decide
theorem aw3_ready : readyP ⟨awN, aw3⟩ [true] = [1] := by decide
theorem aw3_behind : behindK aw3 0 3 = [1, 2] := by decide
theorem aw3_ahead : aheadL aw3 2 = [0, 1] := by
  have h : upP aw3 2 = [0, 1] := by decide
  unfold aheadL
  rw [h]
  unfold sortL
  rw [List.mergeSort_of_pairwise (by decide)]
  rfl
theorem ord_aw : OrdAw where
  order3 := fun {w A c} hA _ => by
    have h := oorder_is (c := c) hA aw3_right
    rw [aw3_order] at h
    exact h.mono fun e w' ⟨hb, B, b, he, hN, _⟩ => ⟨⟨B, b, he, hN⟩, hb⟩
  order2 := fun {w A c} hA _ => by
    have h := oorder_is (c := c) hA aw2_right
    rw [aw2_order] at h
    exact h.mono fun e w' ⟨hb, he⟩ => ⟨⟨_, he⟩, hb⟩
  round3 := fun {w A c} hA _ => by
    have h := oround_is (c := c) hA aw3_right
    rwa [aw3_round] at h
  round2 := fun {w A c} hA _ => by
    have h := oround_is (c := c) hA aw2_right
    rwa [aw2_round] at h
  round0 := fun {w} => oround_no w
  long3 := fun {w A c} hA _ => by
    have h := olong_is (c := c) hA aw3_right
    rwa [aw3_long] at h
  long2 := fun {w A c} hA _ => by
    have h := olong_is (c := c) hA aw2_right
    rwa [aw2_long] at h
  ready3 := fun {w A D c d} hA _ hD _ => by
    have h := oready_is (c := c) (d := d) hA aw3_right hD
    rwa [aw3_ready] at h
  behind3 := fun {w A c} hA _ => by
    have h := obehind_is (c := c) hA aw3_right 0
    rwa [show behindK aw3 0 aw3.length = [1, 2] from aw3_behind] at h
  ahead3 := fun {w A c} hA _ => by
    have h := oahead_is (c := c) hA aw3_right (i := 2) (by decide)
    rwa [aw3_ahead] at h
theorem ordawake_true (w : World) : Calls Try.prog 4 #[] w fun e w' => e = .returned (.bool true) ∧ Below w.heap.size w w' := ordawake_of ord_aw w
end Go.Proofs.Ytpndjeccfdcjpaa

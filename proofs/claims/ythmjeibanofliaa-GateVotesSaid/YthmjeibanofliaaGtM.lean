/-
  The law's map of who is for it: just the numbers of a list, with true. No conditions.
-/
import Derived.Test.YthmjeibanofliaaGtD
import Derived.Maps.OwnOps
import Derived.Maps.OwnSet
import Derived.Maps.Views
import Derived.WalkArith
namespace Go.Proofs.Ythmjeibanofliaa
open Go.RowKit
open Go.Maps (Keyed IsMap Tidy has size size_put atKey_put_same atKey_put_other has_put_same has_put_other isMap_empty int_keyed keyOf_int_mk)

theorem lawI12 : Keyed Try.prog 3 := int_keyed Try.underlying3
theorem zeroB12 (w : World) : (zeroValue 4).run Try.prog w = .ok (.bool false) w := by kernel_rfl
theorem keyI12 {a : Int} (h1 : -9223372036854775808 ≤ a) (h2 : a ≤ 9223372036854775807) : keyOf Try.prog 3 (.int .i64 a) = some (.int .i64 a) := keyOf_int_mk Try.underlying3 (WalkArith.wf_i64 ⟨h1, h2⟩)
theorem plainB12 {v : Value} {z : DataW Unit × List MemPlace} (h : plainElem Try.prog 4 v = some z) : ∃ x : Bool, v = .bool x ∧ z = (.lit (.bool x), []) := by
  unfold plainElem at h
  rw [Try.underlying4] at h
  cases v <;> simp at h
  exact ⟨_, rfl, h.symm⟩
/-- Block g is a map in which just those of l stand, with true. -/
def MapG (w : World) (g : Nat) (l : List Int) (q : Nat) : Prop :=
  ∃ D : DataW Unit, w.ownsMap Try.prog 3 (plainElem Try.prog 4) g q D ∧ Tidy D ∧ size D = l.length ∧ ∀ x : Int, has D (.int .i64 x) = l.contains x ∧ D.atKey (.int .i64 x) (.lit (.bool false)) = .lit (.bool (l.contains x))
section
variable {w w' : World} {g q : Nat} {l : List Int}
theorem MapG.later (h : MapG w g l q) (hb : Below w.heap.size w w') : MapG w' g l q := by
  obtain ⟨D, h1, h2⟩ := h
  exact ⟨D, h1.kept (row := none) ⟨hb.os, hb.tape, hb.output, hb.size, fun i hi _ => hb.block i hi⟩ (by simp), h2⟩
theorem MapG.block (h : MapG w g l q) (hb : w'.heap[g]? = w.heap[g]?) : MapG w' g l q := by
  obtain ⟨D, ⟨es, clock, h1, h2⟩, h3⟩ := h
  exact ⟨D, ⟨es, clock, by rw [hb]; exact h1, h2⟩, h3⟩
theorem MapG.more (h : MapG w g l q) : MapG w g l (q + 1) := by
  obtain ⟨D, ⟨es, clock, h1, h2, h3, h4⟩, h5⟩ := h
  exact ⟨D, ⟨es, clock, h1, h2, by omega, h4⟩, h5⟩
theorem MapG.is (h : MapG w g l q) : ∃ es clock, w.heap[g]? = some (.map es clock) := by
  obtain ⟨D, ⟨es, clock, h1, _⟩, _⟩ := h
  exact ⟨es, clock, h1⟩
theorem MapG.len_ (h : MapG w g l q) : (Builtin.len_ #[27] 3 #[.map (some g)]).run Try.prog w = .ok (.int .i64 (l.length : Int)) w := by
  obtain ⟨D, h1, _, h3, _⟩ := h
  have := h1.len Try.underlying27 3
  rw [h3] at this
  exact this
theorem MapG.look (h : MapG w g l q) {x : Int} (h1 : -9223372036854775808 ≤ x) (h2 : x ≤ 9223372036854775807) : (Instr.lookup 27 (.map (some g)) (.int .i64 x) false).run Try.prog w = .ok (.bool (l.contains x)) w := by
  obtain ⟨D, hown, _, _, hh⟩ := h
  obtain ⟨v, ps, hrun, hv⟩ := hown.lookup lawI12 Try.underlying27 (zeroB12 w) (plainElem_bool Try.underlying4 false) (keyI12 h1 h2)
  obtain ⟨c, rfl, hc⟩ := plainB12 hv
  simp only [Prod.mk.injEq] at hc
  rw [(hh x).2] at hc
  rw [hrun]
  have := hc.1
  injection this with this
  injection this with this
  rw [this]
theorem MapG.made (w : World) : MapG (w.alloc (.map #[] 0)) w.heap.size [] 0 :=
  ⟨.map [], World.ownsMap_made w _ _ _, Maps.tidy_empty, rfl, fun _ => ⟨rfl, rfl⟩⟩
theorem MapG.put {D : DataW Unit} {x : Int} (h1 : Tidy D) (h2 : size D = l.length) (h3 : ∀ x : Int, has D (.int .i64 x) = l.contains x ∧ D.atKey (.int .i64 x) (.lit (.bool false)) = .lit (.bool (l.contains x))) (hx : okWho x = true)
    (h : w'.ownsMap Try.prog 3 (plainElem Try.prog 4) g (q + 1) (D.put (.int .i64 x) (.lit (.bool true)))) : MapG w' g (yesV l x true) (q + 1) := by
  have hk : WideAt.IsKeyLit (.int .i64 x) := True.intro
  refine ⟨_, h, h1.put hk _, ?_, fun y => ?_⟩
  · rw [size_put h1, (h3 x).1, h2]
    unfold yesV
    rw [hx]
    cases hc : l.contains x with
    | true => simp
    | false => simp [insL_len]
  · have hm : (yesV l x true).contains y = (l.contains y || y == x) := by
      rw [Bool.eq_iff_iff, List.contains_iff_mem, yesV_mem, Bool.or_eq_true, List.contains_iff_mem, beq_iff_eq]
      simp [hx]
    rw [hm]
    by_cases e : y = x
    · subst e
      rw [has_put_same h1.isMap hk, atKey_put_same h1.isMap hk]
      simp
    · have hne : (Lit.int .i64 y) ≠ .int .i64 x := fun h => by injection h with _ h; exact e h
      rw [has_put_other hne, atKey_put_other hne, (h3 y).1, (h3 y).2]
      simp [e]
end
end Go.Proofs.Ythmjeibanofliaa

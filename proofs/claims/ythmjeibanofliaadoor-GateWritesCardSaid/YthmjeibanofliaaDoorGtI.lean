/-
  Lists of numbers and votes that come in as arguments, opened. No conditions.
-/
import Derived.Test.YthmjeibanofliaaDoorGtB
import Derived.Test.YthmjeibanofliaaDoorRows
import Derived.ProofKit
import Derived.OpenShut
import Derived.ChangeOld
import Derived.Deep.Slices
import Derived.Lib.SmallJoins
namespace Go.Proofs.YthmjeibanofliaaDoor
open Go.ChangeShapes Go.WideShapes Go.ChangeAt Go.RowKit Go.Joins Go.Deep

theorem choose12 {n : Nat} {α : Type} [Inhabited α] {p : Nat → α → Prop} (h : ∀ i, i < n → ∃ x, p i x) : ∃ f : Nat → α, ∀ i, i < n → p i (f i) :=
  ⟨fun i => if hi : i < n then (h i hi).choose else default, fun i hi => by simp only [dif_pos hi]; exact (h i hi).choose_spec⟩
section
variable {H : Type} {enc : TypeId × Value → H} {w : World} {base : Nat} {spare : Nat → Bool} {held : Bool}
theorem cellsI12 : Tryd.prog.cellsOf 3 = 1 := by kernel_rfl
theorem cellsB12 : Tryd.prog.cellsOf 4 = 1 := by kernel_rfl
theorem cellsL12 : Tryd.prog.cellsOf 22 = 1 := by kernel_rfl
theorem cellsV12 : Tryd.prog.cellsOf 24 = 2 := by kernel_rfl
set_option maxRecDepth 100000 in
theorem ints_open12 {fuel : Nat} {cs : List Value} {x : DataW H × List MemPlace} (h : DataW.trod enc Tryd.prog w base spare held fuel 22 cs = some x) :
    ∃ (A : Option Addr) (l : List Int) (c : Nat), cs = [.slice A l.length c] ∧ IntsL w A l ∧ l.length ≤ c ∧ l.length ≤ maxLen ∧ (A = none → l = [] ∧ c = 0) ∧ ∀ z ∈ l, -9223372036854775808 ≤ z ∧ z ≤ 9223372036854775807 := by
  rcases open_slice1 Tryd.underlying22 cellsI12 h with ⟨h0, _⟩ | ⟨a, len, cap, m, k, V, D, Pl, hcs, _, hl, hm, hmm, _, hx⟩
  · exact ⟨none, [], 0, h0, fun h => absurd h (Nat.lt_irrefl _), Nat.le_refl _, Nat.zero_le _, fun _ => ⟨rfl, rfl⟩, fun z hz => absurd hz List.not_mem_nil⟩
  · have hlm : len ≤ m := by rw [hmm]; split <;> omega
    obtain ⟨B, hB⟩ := choose12 (n := len) (α := Int) (p := fun i b => V i = .int .i64 b ∧ -9223372036854775808 ≤ b ∧ b ≤ 9223372036854775807) (fun i hi => by
      obtain ⟨b, h1, _, hw⟩ := DataW.trod_int Tryd.underlying3 (hx i (by omega)).2
      exact ⟨b, by simpa using h1, bounds_i64 hw⟩)
    have hlt : ((List.range len).map B).length = len := by simp
    refine ⟨some a, (List.range len).map B, cap, by rw [hlt]; exact hcs, fun _ => ⟨a, rfl, fun i hi => ?_⟩, by omega, by omega, (fun h => by cases h), fun z hz => ?_⟩
    · rw [hlt] at hi
      rw [(hx i (by omega)).1, (hB i hi).1]
      simp [hi]
    · obtain ⟨i, hi2, rfl⟩ := List.mem_map.1 hz
      exact (hB i (List.mem_range.1 hi2)).2
set_option maxRecDepth 100000 in
theorem votes_open12 {b2 : Nat} {v : Value} {d : DataW H} {p : List MemPlace} (hv : Value.okWide Tryd.prog w .any b2 24 v) (h : DataW.Trod enc Tryd.prog w base spare held 24 v d p) :
    ∃ (A : Option Addr) (l : List Int) (c : Nat) (no : Bool), v = .agg #[.slice A l.length c, .bool no] ∧ IntsC w A c l ∧ l.length ≤ maxLen ∧ ∀ z ∈ l, -9223372036854775808 ≤ z ∧ z ≤ 9223372036854775807 := by
  obtain ⟨c0, c1, y0, y1, m, rfl, hd, hp, hy0, hy1⟩ := open_agg2 Tryd.underlying24 (by kernel_rfl) cellsV12 hv h
  obtain ⟨A, l, c, e0, h1, h2, h3, h4, h5⟩ := ints_open12 hy0
  obtain ⟨b, e1, _⟩ := DataW.trod_bool Tryd.underlying4 hy1
  simp at e0 e1
  subst e0 e1
  exact ⟨A, l, c, b, rfl, ⟨h1, h2, h4⟩, h3, h5⟩
end
end Go.Proofs.YthmjeibanofliaaDoor

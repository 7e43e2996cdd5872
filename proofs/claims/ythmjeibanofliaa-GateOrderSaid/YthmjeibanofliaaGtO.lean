/-
  Lists of votes that come in as arguments, opened. No conditions.
-/
import Derived.Test.YthmjeibanofliaaGtC
import Derived.Test.YthmjeibanofliaaGtI
import Derived.Test.YthmjeibanofliaaRows
import Derived.ProofKit
import Derived.OpenShut
import Derived.ChangeOld
import Derived.Deep.Slices
import Derived.Deep.Grids
import Derived.Lib.SmallJoins
namespace Go.Proofs.Ythmjeibanofliaa
open Go.ChangeShapes Go.WideShapes Go.ChangeAt Go.RowKit Go.Joins Go.Deep

section
variable {H : Type} {enc : TypeId × Value → H} {w : World} {base : Nat} {spare : Nat → Bool} {held : Bool}
theorem cellsC12 : Try.prog.cellsOf 29 = 2 := by kernel_rfl
set_option maxRecDepth 100000 in
theorem cast_open12 {fuel : Nat} {cs : List Value} {x : DataW H × List MemPlace} (h : DataW.trod enc Try.prog w base spare held fuel 29 cs = some x) : ∃ (z : Int) (b : Bool), cs = [.int .i64 z, .bool b] ∧ -9223372036854775808 ≤ z ∧ z ≤ 9223372036854775807 := by
  obtain ⟨xs, n, _, _, hlen, hxl, hf⟩ := DataW.trod_struct Try.underlying29 h
  rw [cellsC12] at hlen
  match cs, hlen with
  | [c0, c1], _ =>
    have h0 := hf 0 _ rfl
    have h1 := hf 1 _ rfl
    have hx0 : xs[0]? = some (xs[0]'(by rw [hxl]; decide)) := List.getElem?_eq_getElem _
    have hx1 : xs[1]? = some (xs[1]'(by rw [hxl]; decide)) := List.getElem?_eq_getElem _
    rw [hx0] at h0
    rw [hx1] at h1
    simp only [List.getElem_toArray, List.getElem_cons_zero, List.getElem_cons_succ] at h0 h1
    simp only [cellsI12, cellsB12, List.drop_zero, List.take_succ_cons, List.take_zero, List.drop_succ_cons] at h0 h1
    obtain ⟨a, e0, _, ha⟩ := DataW.trod_int Try.underlying3 h0
    obtain ⟨b, e1, _⟩ := DataW.trod_bool Try.underlying4 h1
    injection e0 with e0
    injection e1 with e1
    exact ⟨a, b, by rw [e0, e1], bounds_i64 ha⟩
set_option maxRecDepth 100000 in
theorem casts_open12 {fuel : Nat} {A : Option Addr} {n c : Nat} {x : DataW H × List MemPlace} (h : DataW.trod enc Try.prog w base spare held fuel 22 [.slice A n c] = some x) :
    ∃ cs : List (Int × Bool), cs.length = n ∧ CsL w A cs ∧ n ≤ c ∧ ∀ x ∈ cs, -9223372036854775808 ≤ x.1 ∧ x.1 ≤ 9223372036854775807 := by
  rcases open_slice Try.underlying22 h with ⟨h0, _⟩ | ⟨a, len, cap, m, k, D, Pl, hcs, _, hl, _, hmm, _, hi⟩
  · injection h0 with h0
    injection h0 with hA hn hc
    subst hA hn hc
    exact ⟨[], rfl, fun h => absurd h (Nat.lt_irrefl _), Nat.le_refl _, fun x hx => absurd hx List.not_mem_nil⟩
  · injection hcs with hcs
    injection hcs with hA hn hc
    subst hA hn hc
    have hm : n ≤ m := by rw [hmm]; split <;> omega
    obtain ⟨B, hB⟩ := choose12 (n := n) (α := Int × Bool) (p := fun i b => (w.cell? (a.add (i * 2)) = some (.int .i64 b.1) ∧ w.cell? (a.add (i * 2 + 1)) = some (.bool b.2)) ∧ -9223372036854775808 ≤ b.1 ∧ b.1 ≤ 9223372036854775807) (fun i hin => by
      obtain ⟨cs', hc', ht'⟩ := hi i (by omega)
      obtain ⟨l, s, rfl, hs⟩ := cast_open12 ht'
      rw [cellsC12] at hc'
      obtain ⟨_, _, hat⟩ := World.cells?_some hc'
      refine ⟨(l, s), ⟨?_, ?_⟩, hs⟩
      · have := hat 0 (by omega); simpa [Go.Deep.add_add] using this
      · have := hat 1 (by omega); rw [Go.Deep.add_add] at this; simpa using this)
    refine ⟨(List.range n).map B, by simp, fun _ => ⟨a, rfl, fun i t hit => ?_⟩, hl, fun t ht => ?_⟩
    · have hil := (List.getElem?_eq_some_iff.1 hit).1
      simp only [List.length_map, List.length_range] at hil
      rw [List.getElem?_map, List.getElem?_range hil] at hit
      obtain rfl : B i = t := by simpa using hit
      have h1 := (hB i hil).1
      refine ⟨h1.1, ?_⟩
      have ha : (⟨(a.add (i * 2)).block, (a.add (i * 2)).off + 1, none⟩ : Addr) = a.add (i * 2 + 1) := by
        unfold Addr.add
        by_cases hk : i * 2 = 0 <;> simp [hk, Nat.add_assoc]
      rw [ha]
      exact h1.2
    · obtain ⟨i, hi2, rfl⟩ := List.mem_map.1 ht
      exact (hB i (List.mem_range.1 hi2)).2
end
end Go.Proofs.Ythmjeibanofliaa

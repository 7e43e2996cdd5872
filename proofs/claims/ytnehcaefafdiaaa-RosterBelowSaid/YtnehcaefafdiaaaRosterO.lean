/-
  Lists of labels and of principals that come in as arguments, opened to their cells. No conditions.
-/
import Derived.Test.YtnehcaefafdiaaaRosterN
import Derived.Test.YtnehcaefafdiaaaRows
import Derived.ProofKit
import Derived.OpenShut
import Derived.ChangeOld
import Derived.Deep.Slices
import Derived.Lib.SmallJoins
namespace Go.Proofs.Ytnehcaefafdiaaa
open Go.ChangeShapes Go.WideShapes Go.ChangeAt Go.RowKit Go.Joins Go.Deep

/-- The number that a cell holds. -/
def numAt (w : World) (a : Addr) : Int := match w.cell? a with | some (.int _ z) => z | _ => 0

theorem set_of_wf {s : Int} (h : (Lit.int .u16 s).wf = true) : SetN s := by
  have := bounds_u16 h
  exact ⟨this.1, by omega⟩

section
variable {H : Type} {enc : TypeId × Value → H} {w : World} {base : Nat} {spare : Nat → Bool} {held : Bool}

theorem cellsL : Try.prog.cellsOf 26 = 2 := by kernel_rfl
theorem cellsP : Try.prog.cellsOf 35 = 3 := by kernel_rfl
theorem cellsI : Try.prog.cellsOf 3 = 1 := by kernel_rfl
theorem cellsU : Try.prog.cellsOf 24 = 1 := by kernel_rfl

/-- One label: its two cells. -/
theorem lab_open {fuel : Nat} {cs : List Value} {x : DataW H × List MemPlace} (h : DataW.trod enc Try.prog w base spare held fuel 26 cs = some x) :
    ∃ l s : Int, cs = [.int .i64 l, .int .u16 s] ∧ SetN s := by
  obtain ⟨xs, n, _, _, hlen, hxl, hf⟩ := DataW.trod_struct Try.underlying26 h
  rw [cellsL] at hlen
  match cs, hlen with
  | [c0, c1], _ =>
    have h0 := hf 0 _ rfl
    have h1 := hf 1 _ rfl
    have hx0 : xs[0]? = some (xs[0]'(by rw [hxl]; decide)) := List.getElem?_eq_getElem _
    have hx1 : xs[1]? = some (xs[1]'(by rw [hxl]; decide)) := List.getElem?_eq_getElem _
    rw [hx0] at h0
    rw [hx1] at h1
    simp only [List.getElem_toArray, List.getElem_cons_zero, List.getElem_cons_succ] at h0 h1
    simp only [cellsI, cellsU, List.drop_zero, List.take_succ_cons, List.take_zero, List.drop_succ_cons] at h0 h1
    obtain ⟨l, e0, _, _⟩ := DataW.trod_int Try.underlying3 h0
    obtain ⟨s, e1, _, hs⟩ := DataW.trod_int Try.underlying24 h1
    injection e0 with e0
    injection e1 with e1
    exact ⟨l, s, by rw [e0, e1], set_of_wf hs⟩

/-- One principal: its three cells. -/
theorem pep_open {fuel : Nat} {cs : List Value} {x : DataW H × List MemPlace} (h : DataW.trod enc Try.prog w base spare held fuel 35 cs = some x) :
    ∃ p l s : Int, cs = [.int .i64 p, .int .i64 l, .int .u16 s] ∧ SetN s := by
  obtain ⟨xs, n, _, _, hlen, hxl, hf⟩ := DataW.trod_struct Try.underlying35 h
  rw [cellsP] at hlen
  match cs, hlen with
  | [c0, c1, c2], _ =>
    have h0 := hf 0 _ rfl
    have h1 := hf 1 _ rfl
    have hx0 : xs[0]? = some (xs[0]'(by rw [hxl]; decide)) := List.getElem?_eq_getElem _
    have hx1 : xs[1]? = some (xs[1]'(by rw [hxl]; decide)) := List.getElem?_eq_getElem _
    rw [hx0] at h0
    rw [hx1] at h1
    simp only [List.getElem_toArray, List.getElem_cons_zero, List.getElem_cons_succ] at h0 h1
    simp only [cellsI, cellsL, List.drop_zero, List.take_succ_cons, List.take_zero, List.drop_succ_cons] at h0 h1
    obtain ⟨p, e0, _, _⟩ := DataW.trod_int Try.underlying3 h0
    obtain ⟨l, s, e1, hs⟩ := lab_open h1
    injection e0 with e0
    injection e1 with e1 e2
    injection e2 with e2
    exact ⟨p, l, s, by rw [e0, e1, e2], hs⟩

theorem labs_open {fuel : Nat} {A : Option Addr} {n c : Nat} {x : DataW H × List MemPlace} (h : DataW.trod enc Try.prog w base spare held fuel 22 [.slice A n c] = some x) :
    ∃ lv st : Nat → Int, LabsAt w A n lv st ∧ n ≤ c ∧ (A = none → n = 0 ∧ c = 0) ∧ ∀ i, i < n → SetN (st i) := by
  rcases open_slice Try.underlying22 h with ⟨h0, _⟩ | ⟨a, len, cap, m, k, D, Pl, hcs, _, hl, _, hmm, _, hi⟩
  · injection h0 with h0
    injection h0 with hA hn hc
    subst hA hn hc
    exact ⟨fun _ => 0, fun _ => 0, fun h => absurd h (by omega), Nat.le_refl _, fun _ => ⟨rfl, rfl⟩, fun i hi => absurd hi (by omega)⟩
  · injection hcs with hcs
    injection hcs with hA hn hc
    subst hA hn hc
    have hm : n ≤ m := by rw [hmm]; split <;> omega
    have each : ∀ i, i < n → ∃ l s : Int, w.cell? (a.add (i * 2)) = some (.int .i64 l) ∧ w.cell? (a.add (i * 2 + 1)) = some (.int .u16 s) ∧ SetN s := fun i hin => by
      obtain ⟨cs', hc', ht'⟩ := hi i (by omega)
      obtain ⟨l, s, rfl, hs⟩ := lab_open ht'
      rw [cellsL] at hc'
      obtain ⟨_, _, hat⟩ := World.cells?_some hc'
      refine ⟨l, s, ?_, ?_, hs⟩
      · have := hat 0 (by omega); simpa [Go.Deep.add_add] using this
      · have := hat 1 (by omega); rw [Go.Deep.add_add] at this; simpa using this
    refine ⟨fun i => numAt w (a.add (i * 2)), fun i => numAt w (a.add (i * 2 + 1)), fun _ => ⟨a, rfl, fun i hin => ?_⟩, hl, fun h => (by cases h), fun i hin => ?_⟩
    · obtain ⟨l, s, h0, h1, _⟩ := each i hin
      rw [addr_next]
      simp only [numAt, h0, h1]
      exact ⟨trivial, trivial⟩
    · obtain ⟨l, s, h0, h1, hs⟩ := each i hin
      simp only [numAt, h1]
      exact hs

theorem peps_open {fuel : Nat} {A : Option Addr} {n c : Nat} {x : DataW H × List MemPlace} (h : DataW.trod enc Try.prog w base spare held fuel 23 [.slice A n c] = some x) :
    ∃ pt al au : Nat → Int, PepsAt w A n pt al au ∧ n ≤ c ∧ (A = none → n = 0 ∧ c = 0) ∧ ∀ i, i < n → SetN (au i) := by
  rcases open_slice Try.underlying23 h with ⟨h0, _⟩ | ⟨a, len, cap, m, k, D, Pl, hcs, _, hl, _, hmm, _, hi⟩
  · injection h0 with h0
    injection h0 with hA hn hc
    subst hA hn hc
    exact ⟨fun _ => 0, fun _ => 0, fun _ => 0, fun h => absurd h (by omega), Nat.le_refl _, fun _ => ⟨rfl, rfl⟩, fun i hi => absurd hi (by omega)⟩
  · injection hcs with hcs
    injection hcs with hA hn hc
    subst hA hn hc
    have hm : n ≤ m := by rw [hmm]; split <;> omega
    have each : ∀ i, i < n → ∃ p l s : Int, w.cell? (a.add (i * 3)) = some (.int .i64 p) ∧ w.cell? (a.add (i * 3 + 1)) = some (.int .i64 l) ∧ w.cell? (a.add (i * 3 + 2)) = some (.int .u16 s) ∧ SetN s := fun i hin => by
      obtain ⟨cs', hc', ht'⟩ := hi i (by omega)
      obtain ⟨p, l, s, rfl, hs⟩ := pep_open ht'
      rw [cellsP] at hc'
      obtain ⟨_, _, hat⟩ := World.cells?_some hc'
      refine ⟨p, l, s, ?_, ?_, ?_, hs⟩
      · have := hat 0 (by omega); simpa [Go.Deep.add_add] using this
      · have := hat 1 (by omega); rw [Go.Deep.add_add] at this; simpa using this
      · have := hat 2 (by omega); rw [Go.Deep.add_add] at this; simpa using this
    refine ⟨fun i => numAt w (a.add (i * 3)), fun i => numAt w (a.add (i * 3 + 1)), fun i => numAt w (a.add (i * 3 + 2)), fun _ => ⟨a, rfl, fun i hin => ?_⟩, hl, fun h => (by cases h), fun i hin => ?_⟩
    · obtain ⟨p, l, s, h0, h1, h2, _⟩ := each i hin
      rw [addr_next, addr_next2]
      simp only [numAt, h0, h1, h2]
      exact ⟨trivial, trivial, trivial⟩
    · obtain ⟨p, l, s, h0, h1, h2, hs⟩ := each i hin
      simp only [numAt, h2]
      exact hs

end
end Go.Proofs.Ytnehcaefafdiaaa

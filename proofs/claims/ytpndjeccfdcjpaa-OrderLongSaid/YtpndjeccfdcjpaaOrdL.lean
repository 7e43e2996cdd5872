/-
  What OrderLong asks of the program's order (a bundle), and the plain facts that it asks of the numbers. No conditions.
-/
import Derived.Test.YtpndjeccfdcjpaaOrdA
import Derived.Test.YtpndjeccfdcjpaaOrdF
import Derived.Test.YtpndjeccfdcjpaaOrdR
namespace Go.Proofs.Ytpndjeccfdcjpaa
open Go.RowKit

/-- Which tasks are ready: not done, all that they come behind done. -/
def readyP (p : PiP) (ds : List Bool) : List Nat := (List.range p.tasks.length).filter fun i => !ds.getD i false && ((p.tasks.getD i ⟨⟨#[]⟩, [], 0, 0, 0, 0, 0⟩).after.all fun a => ds.getD a false)
theorem readyP_len (p : PiP) (ds : List Bool) : (readyP p ds).length ≤ p.tasks.length := Nat.le_trans (List.length_filter_le _ _) (by simp)
theorem getD_set (ds : List Bool) (m i : Nat) : (ds.set m true).getD i false = (decide (i = m ∧ m < ds.length) || ds.getD i false) := by
  rw [List.getD_eq_getElem?_getD, List.getElem?_set, List.getD_eq_getElem?_getD]
  by_cases h : m = i
  · subst h
    by_cases hm : m < ds.length
    · simp [hm]
    · simp [hm]
  · have h' : ¬ i = m := fun e => h e.symm
    simp [h, h']
/-- With one more done nothing else is less ready. -/
theorem readyP_more {p : PiP} {ds : List Bool} {m i : Nat} (hi : i ∈ readyP p ds) (hm : i ≠ m) : i ∈ readyP p (ds.set m true) := by
  unfold readyP at hi ⊢
  rw [List.mem_filter] at hi ⊢
  refine ⟨hi.1, ?_⟩
  have h := hi.2
  simp only [Bool.and_eq_true, Bool.not_eq_true', List.all_eq_true] at h ⊢
  refine ⟨by rw [getD_set, h.1]; simp [hm], fun a ha => by rw [getD_set, h.2 a ha]; simp⟩
theorem readyP_done {p : PiP} {ds : List Bool} {m : Nat} (hm : m < ds.length) : m ∉ readyP p (ds.set m true) := by
  unfold readyP
  rw [List.mem_filter]
  rintro ⟨_, h⟩
  simp only [Bool.and_eq_true, Bool.not_eq_true'] at h
  have h1 := h.1
  rw [getD_set] at h1
  simp [hm] at h1
/-- No task comes behind another one. -/
def flatP (ts : List TkP) : Bool := ts.all fun t => t.after.isEmpty
/-- What the program's order must be, for the law. -/
structure OrdOk (longV roundV : PiP → Int) : Prop where
  long : ∀ {w : World} {A : Option Addr} {c : Nat} {n : ByteArray} {ts : List TkP}, TksAt w A ts → RightPi ⟨n, ts⟩ → ts.length ≤ c →
    Calls Try.prog 7 #[.agg #[.string n, .slice A ts.length c]] w fun e w' => e = .returned (.int .i64 (longV ⟨n, ts⟩)) ∧ Below w.heap.size w w'
  round : ∀ {w : World} {A : Option Addr} {c : Nat} {n : ByteArray} {ts : List TkP}, TksAt w A ts → RightPi ⟨n, ts⟩ → ts.length ≤ c →
    Calls Try.prog 8 #[.agg #[.string n, .slice A ts.length c]] w fun e w' => e = .returned (.int .i64 (roundV ⟨n, ts⟩)) ∧ Below w.heap.size w w'
  ready : ∀ {w : World} {A : Option Addr} {c : Nat} {n : ByteArray} {ts : List TkP} {D : Option Addr} {ds : List Bool} {d : Nat}, TksAt w A ts → RightPi ⟨n, ts⟩ → ts.length ≤ c → BoolsAt w D ds → ds.length ≤ d → ds.length ≤ 8 →
    Calls Try.prog 9 #[.agg #[.string n, .slice A ts.length c], .slice D ds.length d] w fun e w' => (∃ B b, e = .returned (.slice B (readyP ⟨n, ts⟩ ds).length b) ∧ NatsAt w' B (readyP ⟨n, ts⟩ ds)) ∧ Below w.heap.size w w'
  few : ∀ p, RightPi p → longV p ≤ p.tasks.length
  flat : ∀ p, RightPi p → flatP p.tasks = true → longV p = 1
  one : ∀ p, RightPi p → flatP p.tasks = false → roundV p < 0 → longV p ≠ 1
end Go.Proofs.Ytpndjeccfdcjpaa

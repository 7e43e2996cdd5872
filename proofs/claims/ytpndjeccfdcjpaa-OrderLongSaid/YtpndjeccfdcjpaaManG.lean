/-
  Pipelines in memory, and what lies there while a text's lines are gone over. No conditions.
-/
import Derived.Test.YtpndjeccfdcjpaaManE
namespace Go.Proofs.Ytpndjeccfdcjpaa
open Go.RowKit

/-- The numbers l stand at A. -/
def NatsAt (w : World) (A : Option Addr) (l : List Nat) : Prop := 0 < l.length → ∃ ad, A = some ad ∧ ∀ (i n : Nat), l[i]? = some n → w.cell? (ad.add i) = some (.int .i64 n)
theorem NatsAt.later {w w' : World} {A : Option Addr} {l : List Nat} (h : NatsAt w A l) (hb : Below w.heap.size w w') : NatsAt w' A l := fun hn => by
  obtain ⟨ad, e, hc⟩ := h hn
  exact ⟨ad, e, fun i n hi => cell_later hb (hc i n hi)⟩
theorem NatsAt.at_ {w : World} {A : Option Addr} {l : List Nat} (h : NatsAt w A l) {i n : Nat} (hi : l[i]? = some n) : ∃ ad, A = some ad ∧ w.cell? (ad.add i) = some (.int .i64 n) := by
  obtain ⟨ad, e, hc⟩ := h (by have := (List.getElem?_eq_some_iff.1 hi).1; omega)
  exact ⟨ad, e, hc i n hi⟩
/-- A task's cells; the tasks ts stand at A. -/
def tkC (t : TkP) (tv : Value) : List Value := [.string t.name, tv, .int .i64 t.retry, .int .i64 t.time, .int .i64 t.need, .int .i64 t.lv, .int .u16 t.st]
def TksAt (w : World) (A : Option Addr) (ts : List TkP) : Prop := 0 < ts.length → ∃ ad, A = some ad ∧ ∀ (i : Nat) (t : TkP), ts[i]? = some t → ∃ B c, (∀ (j : Nat) (v : Value), (tkC t (.slice B t.after.length c))[j]? = some v → w.cell? (ad.add (i * 7 + j)) = some v) ∧ NatsAt w B t.after ∧ t.after.length ≤ c
theorem TksAt.later {w w' : World} {A : Option Addr} {ts : List TkP} (h : TksAt w A ts) (hb : Below w.heap.size w w') : TksAt w' A ts := fun hn => by
  obtain ⟨ad, e, hc⟩ := h hn
  refine ⟨ad, e, fun i t hi => ?_⟩
  obtain ⟨B, c, h1, h2, h3⟩ := hc i t hi
  exact ⟨B, c, fun j v hj => cell_later hb (h1 j v hj), h2.later hb, h3⟩

/-- Rows of cells, one behind the other. -/
theorem flat_len {α : Type} (f : α → List Value) (k : Nat) (hf : ∀ x, (f x).length = k) : ∀ l : List α, (l.flatMap f).length = l.length * k
  | [] => by simp
  | x :: l => by
    simp only [List.flatMap_cons, List.length_append, hf, flat_len f k hf l, List.length_cons]
    rw [Nat.add_mul, Nat.one_mul, Nat.add_comm]
theorem flat_at {α : Type} (f : α → List Value) (k : Nat) (hf : ∀ x, (f x).length = k) : ∀ (l : List α) (i : Nat) (x : α) (j : Nat) (v : Value), l[i]? = some x → (f x)[j]? = some v → (l.flatMap f)[i * k + j]? = some v
  | [], i, x, j, v, h, _ => by simp at h
  | y :: l, 0, x, j, v, h, hv => by
    obtain rfl : y = x := by simpa using h
    rw [Nat.zero_mul, Nat.zero_add, List.flatMap_cons, List.getElem?_append_left (List.getElem?_eq_some_iff.1 hv).1]
    exact hv
  | y :: l, i + 1, x, j, v, h, hv => by
    have h' : l[i]? = some x := by simpa using h
    have ih := flat_at f k hf l i x j v h' hv
    rw [List.flatMap_cons, List.getElem?_append_right (by rw [hf, Nat.add_mul, Nat.one_mul]; omega), hf, show (i + 1) * k + j - k = i * k + j by rw [Nat.add_mul, Nat.one_mul]; omega]
    exact ih
/-- One cell of one of them is another one. -/
theorem flat_set {α : Type} (f : α → List Value) (k : Nat) (hf : ∀ x, (f x).length = k) : ∀ (l : List α) (i : Nat) (x y : α) (j : Nat) (v : Value), l[i]? = some x → j < k → f y = (f x).set j v → (l.flatMap f).set (i * k + j) v = (l.set i y).flatMap f
  | [], i, x, y, j, v, h, _, _ => by simp at h
  | z :: l, 0, x, y, j, v, h, hj, e => by
    obtain rfl : z = x := by simpa using h
    rw [Nat.zero_mul, Nat.zero_add, List.set_cons_zero, List.flatMap_cons, List.flatMap_cons, e, List.set_append_left _ _ (by rw [hf]; exact hj)]
  | z :: l, i + 1, x, y, j, v, h, hj, e => by
    have h' : l[i]? = some x := by simpa using h
    have ih := flat_set f k hf l i x y j v h' hj e
    rw [List.set_cons_succ, List.flatMap_cons, List.flatMap_cons, List.set_append_right _ _ (by rw [hf, Nat.add_mul, Nat.one_mul]; omega), hf, show (i + 1) * k + j - k = i * k + j by rw [Nat.add_mul, Nat.one_mul]; omega, ih]

section
variable {w W W' : World} {b : Nat} {ns : List ByteArray} {ys : List (LnP × Value)} {vn vl vn' vl' : Value}
end
def ParseOut (w : World) (r : FaP ⊕ PiP) (e : Ending) (w' : World) : Prop := Below w.heap.size w w' ∧ match r with
  | .inl f => e = .returned (.tuple #[.agg #[.string ⟨#[]⟩, .slice none 0 0], .int .i64 f.e, .int .i64 f.p])
  | .inr p => ∃ A c, e = .returned (.tuple #[.agg #[.string p.name, .slice A p.tasks.length c], .int .i64 0, .int .i64 0]) ∧ TksAt w' A p.tasks
theorem info_pi : (Try.prog.info? 24).map (·.size) = some 2 := by kernel_rfl
theorem info_task : (Try.prog.info? 34).map (fun i => (i.zero, i.size, i.bytes)) = some (some (.agg #[.string ⟨#[]⟩, .slice none 0 0, .int .i64 0, .int .i64 0, .int .i64 0, .int .i64 0, .int .u16 0]), 7, 80) := by kernel_rfl
theorem info_int : (Try.prog.info? 3).map (fun i => (i.zero, i.size, i.bytes)) = some (some (.int .i64 0), 1, 8) := by kernel_rfl
end Go.Proofs.Ytpndjeccfdcjpaa

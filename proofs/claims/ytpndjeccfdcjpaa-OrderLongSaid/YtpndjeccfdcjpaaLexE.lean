/-
  What the law asks of the program's lexer, in one bundle; Wrong of a Fault. Conditions: what the library's variable errors.errorType holds.
-/
import Derived.Test.YtpndjeccfdcjpaaLexA
import Derived.Test.YtpndjeccfdcjpaaLexC
namespace Go.Proofs.Ytpndjeccfdcjpaa
open Go.RowKit Go.Extern.Stop Go.Stop Go.Extern

theorem FaultAt.later {w w' : World} {F : Nat} {a e : Int} (h : FaultAt w F a e) (hb : Below w.heap.size w w') : FaultAt w' F a e := later_at hb h
theorem FaultAt.low {w : World} {F : Nat} {a e : Int} (h : FaultAt w F a e) : F < w.heap.size := (Array.getElem?_eq_some_iff.1 h).1
/-- An api.Fault as an error. -/
def fltV (F : Nat) : Value := .iface 90 (.pointer (some ⟨F, 0, none⟩))

/-- What Lines answers. -/
def LnsOut (w : World) (r : LxR) (e : Ending) (w' : World) : Prop := Below w.heap.size w w' ∧ match r with
  | .bad x p => ∃ A c F, e = .returned (.tuple #[.slice A (0 : Nat) c, fltV F]) ∧ FaultAt w' F p x
  | .good L => ∃ A c, e = .returned (.tuple #[.slice A L.length c, .nilIface]) ∧ LnsAt w' A L ∧ L.length ≤ c
/-- An answer v, or an error x at p and the answer z. -/
def OneOut (w : World) (r : Option Value) (z : Value) (x p : Int) (e : Ending) (w' : World) : Prop := Below w.heap.size w w' ∧ match r with
  | none => ∃ F, e = .returned (.tuple #[z, fltV F]) ∧ FaultAt w' F p x
  | some v => e = .returned (.tuple #[v, .nilIface])
/-- The names' parts, or an error x at p. -/
def NmsOut (w : World) (r : List Wd ⊕ Int) (e : Ending) (w' : World) : Prop := Below w.heap.size w w' ∧ match r with
  | .inr p => ∃ A c F, e = .returned (.tuple #[.slice A (0 : Nat) c, fltV F]) ∧ FaultAt w' F p 15
  | .inl l => ∃ A c, e = .returned (.tuple #[.slice A l.length c, .nilIface]) ∧ WdsAt w' A l

section
variable {w : World} {F : Nat} {a e0 : Int}
end
end Go.Proofs.Ytpndjeccfdcjpaa

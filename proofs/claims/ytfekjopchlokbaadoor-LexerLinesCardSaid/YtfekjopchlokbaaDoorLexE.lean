/-
  What the law asks of the program's lexer, in one bundle; Wrong of a Fault. Conditions: what the library's variable errors.errorType holds.
-/
import Derived.Test.YtfekjopchlokbaaDoorLexA
import Derived.Test.YtfekjopchlokbaaDoorLexB
import Derived.Test.YtfekjopchlokbaaDoorLexC
import Derived.Test.YtfekjopchlokbaaDoorCodT
namespace Go.Proofs.YtfekjopchlokbaaDoor
open Go.RowKit Go.Extern.Stop Go.Stop Go.Extern

/-- What the library's variable holds. -/
def VarE (w : World) : Prop := w.cell? ⟨0, 0, none⟩ = some (.iface 89 (.agg #[.pointer (some ⟨7, 25, none⟩)]))
theorem VarE.later {w w' : World} (h : VarE w) (hb : Below w.heap.size w w') : VarE w' := cell_later hb h
theorem VarE.alloc {w : World} (h : VarE w) (o : Obj) : VarE (w.alloc o) := h.later ((Below.refl _ _).alloc (Nat.le_refl _) o)
/-- What the library's variables hold. -/
structure VarL (w : World) : Prop where
  e : VarE w
  v : VarsAt w
theorem VarL.later {w w' : World} (h : VarL w) (hb : Below w.heap.size w w') : VarL w' := ⟨h.e.later hb, h.v.later hb⟩
theorem VarL.alloc {w : World} (h : VarL w) (o : Obj) : VarL (w.alloc o) := h.later ((Below.refl _ _).alloc (Nat.le_refl _) o)
theorem FaultAt.later {w w' : World} {F : Nat} {a e : Int} (h : FaultAt w F a e) (hb : Below w.heap.size w w') : FaultAt w' F a e := later_at hb h
theorem FaultAt.low {w : World} {F : Nat} {a e : Int} (h : FaultAt w F a e) : F < w.heap.size := (Array.getElem?_eq_some_iff.1 h).1
/-- An api.Fault as an error. -/
def fltV (F : Nat) : Value := .iface 63 (.pointer (some ⟨F, 0, none⟩))

/-- What Lines answers. -/
def LnsOut (w : World) (r : LxR) (e : Ending) (w' : World) : Prop := Below w.heap.size w w' ∧ match r with
  | .bad x p => ∃ A c F, e = .returned (.tuple #[.slice A (0 : Nat) c, fltV F]) ∧ FaultAt w' F p x
  | .good L => ∃ A c, e = .returned (.tuple #[.slice A L.length c, .nilIface]) ∧ LnsAt w' A L
/-- An answer v, or an error x at p and the answer z. -/
def OneOut (w : World) (r : Option Value) (z : Value) (x p : Int) (e : Ending) (w' : World) : Prop := Below w.heap.size w w' ∧ match r with
  | none => ∃ F, e = .returned (.tuple #[z, fltV F]) ∧ FaultAt w' F p x
  | some v => e = .returned (.tuple #[v, .nilIface])
/-- The names' parts, or an error x at p. -/
def NmsOut (w : World) (r : List Wd ⊕ Int) (e : Ending) (w' : World) : Prop := Below w.heap.size w w' ∧ match r with
  | .inr p => ∃ A c F, e = .returned (.tuple #[.slice A (0 : Nat) c, fltV F]) ∧ FaultAt w' F p 15
  | .inl l => ∃ A c, e = .returned (.tuple #[.slice A l.length c, .nilIface]) ∧ WdsAt w' A l

/-- What is asked of the program's At. -/
def AtOk : Prop := ∀ {w : World} {F : Nat} {a e : Int}, VarL w → FaultAt w F a e → Calls Tryd.prog 12 #[fltV F] w fun x w' => x = .returned (.int .i64 a) ∧ Below w.heap.size w w'
/-- What the law asks of the program's lexer. -/
structure LexOk : Prop where
  at_ : AtOk
  nilA : ∀ {w : World}, VarL w → Calls Tryd.prog 12 #[.nilIface] w fun x w' => x = .returned (.int .i64 (-1)) ∧ Below w.heap.size w w'
  lines : ∀ {w : World} (s : ByteArray), VarL w → s.size ≤ 1000000 → Calls Tryd.prog 5 #[.string s] w (LnsOut w (lexP s))
  num7 : ∀ {w : World}, VarL w → Calls Tryd.prog 8 #[.agg #[.string ⟨#[55]⟩, .int .i64 3], .int .i64 0, .int .i64 9] w (OneOut w (some (.int .i64 7)) (.int .i64 0) 16 3)
  num07 : ∀ {w : World}, VarL w → Calls Tryd.prog 8 #[.agg #[.string ⟨#[48, 55]⟩, .int .i64 3], .int .i64 0, .int .i64 9] w (OneOut w none (.int .i64 0) 16 3)
  nms : ∀ {w : World}, VarL w → Calls Tryd.prog 9 #[.agg #[.string ⟨#[97, 44, 98, 99]⟩, .int .i64 2]] w (NmsOut w (.inl [⟨⟨#[97]⟩, 2⟩, ⟨⟨#[98, 99]⟩, 4⟩]))
  nmsBad : ∀ {w : World}, VarL w → Calls Tryd.prog 9 #[.agg #[.string ⟨#[97, 44, 44, 98]⟩, .int .i64 2]] w (NmsOut w (.inr 4))
  lab : ∀ {w : World}, VarL w → Calls Tryd.prog 10 #[.agg #[.string ⟨#[49, 58, 48, 48, 48, 102]⟩, .int .i64 0]] w (OneOut w (some (.agg #[.int .i64 1, .int .u16 15])) (.agg #[.int .i64 0, .int .u16 0]) 3 0)
  name : ∀ {w : World}, VarL w → Calls Tryd.prog 11 #[.agg #[.string ⟨#[65]⟩, .int .i64 8]] w (OneOut w none (.string ⟨#[]⟩) 15 8)

section
variable {w : World} {F : Nat} {a e0 : Int}
set_option maxHeartbeats 1000000 in
set_option maxRecDepth 100000 in
theorem wrong_is (C : AtOk) (hV : VarL w) (h : FaultAt w F a e0) (e p : Int) : Calls Tryd.prog 7 #[fltV F, .int .i64 e, .int .i64 p] w fun x w' => x = .returned (.bool (e0 == e && a == p)) ∧ Below w.heap.size w w' := by
  have HI := Lib.hid (is_fault (e := e) h)
  have HA := Lib.hid (C hV h)
  unfold fltV at HA ⊢
  clear h hV
  by_cases hee : e0 = e
  · have he : (e0 == e) = true := by rw [hee]; simp
    have HE := Lib.hid he
    rw [he] at HI
    clear he hee
    go_enter Tryd.func7, Tryd.ntmps7
    go_wp2_with fail
    refine HI.out.mono ?_
    rintro r w1 ⟨rfl, rfl⟩
    go_wp2_with fail
    refine HA.out.mono ?_
    rintro r w2 ⟨rfl, hb⟩
    go_wp2_with fail
    go_ret
    exact ⟨by rw [HE.out]; rfl, hb⟩
  · have he : (e0 == e) = false := beq_eq_false_iff_ne.2 hee
    have HE := Lib.hid he
    rw [he] at HI
    clear he hee
    go_enter Tryd.func7, Tryd.ntmps7
    go_wp2_with fail
    refine HI.out.mono ?_
    rintro r w1 ⟨rfl, rfl⟩
    go_wp2_with fail
    go_ret
    exact ⟨by rw [HE.out]; rfl, Below.refl _ _⟩
end
end Go.Proofs.YtfekjopchlokbaaDoor

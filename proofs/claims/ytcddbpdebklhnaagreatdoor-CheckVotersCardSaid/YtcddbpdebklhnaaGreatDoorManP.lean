/-
  Plain words of manifests: names, numbers, labels; a line of words as a task; a text as a pipeline, or what is first wrong. No program is named here.
-/
import Derived.Test.YtcddbpdebklhnaaGreatDoorLabelG
import Derived.Test.YtcddbpdebklhnaaGreatDoorLexQ
namespace Go.Proofs.YtcddbpdebklhnaaGreatDoor

/-- Is it in the list? Its place. -/
def memB (x : ByteArray) (l : List ByteArray) : Bool := l.any (fun y => decide (y = x))
theorem memB_iff {x : ByteArray} {l : List ByteArray} : memB x l = true ↔ x ∈ l := by
  unfold memB
  rw [List.any_eq_true]
  constructor
  · rintro ⟨y, hy, h⟩
    rw [← of_decide_eq_true h]
    exact hy
  · intro h
    exact ⟨x, h, decide_eq_true rfl⟩
def findP (l : List ByteArray) (x : ByteArray) : Option Nat := l.findIdx? (fun y => decide (y = x))
instance : Inhabited Wd := ⟨⟨.empty, 0⟩⟩
/-- A name. -/
abbrev nameOk (s : ByteArray) : Prop := 1 ≤ s.size ∧ s.size ≤ 8 ∧ ∀ j, j < s.size → 97 ≤ byL s j ∧ byL s j ≤ 122
def nameP (s : ByteArray) : Bool := decide (nameOk s)
/-- Digits, without noughts ahead; the value of the first k. -/
abbrev numOk (s : ByteArray) : Prop := 1 ≤ s.size ∧ s.size ≤ 9 ∧ (1 < s.size → byL s 0 ≠ 48) ∧ ∀ j, j < s.size → 48 ≤ byL s j ∧ byL s j ≤ 57
def valN (s : ByteArray) : Nat → Int
  | 0 => 0
  | k + 1 => 10 * valN s k + (byL s k - 48)
def numP (s : ByteArray) (lo hi : Int) : Option Int := if numOk s ∧ lo ≤ valN s s.size ∧ valN s s.size ≤ hi then some (valN s s.size) else none
instance (s : ByteArray) (k : Nat) : Decidable (digitsTo s k) := by unfold digitsTo; infer_instance
instance (s : ByteArray) : Decidable (GoodText s) := by unfold GoodText; infer_instance
def labP (s : ByteArray) : Option (Int × Int) := if GoodText s then some (hexI (byteN s 0), setV s 4) else none
/-- A word's parts between commas, or the place of the first one that is no name. -/
def namesGo (s : ByteArray) (p : Nat) : Nat → Nat → Nat → List Wd → List Wd ⊕ Nat
  | 0, fr, i, out => if nameP (s.extract fr i) then .inl (out ++ [⟨s.extract fr i, p + fr⟩]) else .inr (p + fr)
  | f + 1, fr, i, out =>
    if byL s i = 44 then (if nameP (s.extract fr i) then namesGo s p f (i + 1) (i + 1) (out ++ [⟨s.extract fr i, p + fr⟩]) else .inr (p + fr))
    else namesGo s p f fr (i + 1) out
def namesP (w : Wd) : List Wd ⊕ Nat := namesGo w.t w.p w.t.size 0 0 []
/-- The place of the first one that stood there ahead. -/
def dupGo (l : List Wd) : Nat → Nat → Option Nat
  | 0, _ => none
  | f + 1, i => if memB (l.getD i default).t ((l.take i).map (·.t)) then some (l.getD i default).p else dupGo l f (i + 1)
def dupP (l : List Wd) : Option Nat := dupGo l l.length 0

abbrev sAfter : ByteArray := ⟨#[97, 102, 116, 101, 114]⟩
abbrev sTime : ByteArray := ⟨#[116, 105, 109, 101]⟩
abbrev sTo : ByteArray := ⟨#[116, 111]⟩
abbrev sNeed : ByteArray := ⟨#[110, 101, 101, 100]⟩
abbrev sRetry : ByteArray := ⟨#[114, 101, 116, 114, 121]⟩
abbrev sTask : ByteArray := ⟨#[116, 97, 115, 107]⟩
abbrev sGate : ByteArray := ⟨#[103, 97, 116, 101]⟩
abbrev sPipe : ByteArray := ⟨#[112, 105, 112, 101]⟩
/-- A task's line. -/
structure LnP where
  name : ByteArray
  retry : Int
  time : Int
  need : Int
  lv : Int
  st : Int
  after : List Wd
/-- A fault: its number, its place. -/
structure FaP where
  e : Nat
  p : Nat
def wordsP (gate : Bool) : List ByteArray := if gate then [sAfter, sTime, sTo, sNeed] else [sAfter, sTime, sRetry]
def valueP (x : LnP) (word : ByteArray) (w : Wd) : FaP ⊕ LnP :=
  if word = sAfter then (match namesP w with
    | .inr p => .inl ⟨15, p⟩
    | .inl l => match dupP l with
      | some p => .inl ⟨7, p⟩
      | none => .inr { x with after := l })
  else if word = sTo then (match labP w.t with
    | none => .inl ⟨3, w.p⟩
    | some (a, b) => .inr { x with lv := a, st := b })
  else if word = sRetry then (match numP w.t 0 5 with
    | none => .inl ⟨16, w.p⟩
    | some n => .inr { x with retry := n })
  else if word = sTime then (match numP w.t 1 100 with
    | none => .inl ⟨16, w.p⟩
    | some n => .inr { x with time := n })
  else if word = sNeed then (match numP w.t 1 4 with
    | none => .inl ⟨16, w.p⟩
    | some n => .inr { x with need := n })
  else .inr x
/-- A line's pairs. -/
def pairsP (gate : Bool) (seen : List ByteArray) (x : LnP) : List Wd → FaP ⊕ (LnP × List ByteArray)
  | [] => .inr (x, seen)
  | [a] => if memB a.t (wordsP gate) = false then .inl ⟨17, a.p⟩ else if memB a.t seen then .inl ⟨7, a.p⟩ else .inl ⟨3, a.p⟩
  | a :: b :: r => if memB a.t (wordsP gate) = false then .inl ⟨17, a.p⟩ else if memB a.t seen then .inl ⟨7, a.p⟩ else
    match valueP x a.t b with
    | .inl e => .inl e
    | .inr x' => pairsP gate (seen ++ [a.t]) x' r
def ln0 (name : ByteArray) : LnP := ⟨name, 0, 5, 0, 0, 0, []⟩
def lineP (l : List Wd) (names : List ByteArray) : FaP ⊕ LnP :=
  let a := l.getD 0 default
  let b := l.getD 1 default
  if names.length = 8 then .inl ⟨16, a.p⟩
  else if a.t ≠ sTask ∧ a.t ≠ sGate then .inl ⟨17, a.p⟩
  else if l.length < 2 then .inl ⟨3, a.p⟩
  else if nameP b.t = false then .inl ⟨15, b.p⟩
  else if memB b.t names then .inl ⟨7, b.p⟩
  else match pairsP (decide (a.t = sGate)) [] (ln0 b.t) (l.drop 2) with
    | .inl e => .inl e
    | .inr (x, seen) => if a.t = sGate ∧ (memB sTo seen = false ∨ memB sNeed seen = false) then .inl ⟨3, a.p⟩ else .inr x
/-- The lines' tasks. -/
def linesP (acc : List LnP) : List (List Wd) → FaP ⊕ List LnP
  | [] => .inr acc
  | l :: L => match lineP l (acc.map (·.name)) with
    | .inl e => .inl e
    | .inr x => linesP (acc ++ [x]) L
structure TkP where
  name : ByteArray
  after : List Nat
  retry : Int
  time : Int
  need : Int
  lv : Int
  st : Int
structure PiP where
  name : ByteArray
  tasks : List TkP
/-- The places of names. -/
def placesP (names : List ByteArray) (acc : List Nat) : List Wd → FaP ⊕ List Nat
  | [] => .inr acc
  | w :: l => match findP names w.t with
    | none => .inl ⟨6, w.p⟩
    | some n => placesP names (acc ++ [n]) l
def tasksP (names : List ByteArray) (acc : List TkP) : List LnP → FaP ⊕ List TkP
  | [] => .inr acc
  | x :: l => match placesP names [] x.after with
    | .inl e => .inl e
    | .inr a => tasksP names (acc ++ [⟨x.name, a, x.retry, x.time, x.need, x.lv, x.st⟩]) l
/-- What any text is. -/
def parseP (s : ByteArray) : FaP ⊕ PiP :=
  match lexP s with
  | .bad e p => .inl ⟨e, p⟩
  | .good [] => .inl ⟨6, s.size⟩
  | .good (l0 :: L) =>
    if (l0.getD 0 default).t ≠ sPipe then .inl ⟨17, (l0.getD 0 default).p⟩
    else if l0.length ≠ 2 then .inl ⟨3, (l0.getD 0 default).p⟩
    else if nameP (l0.getD 1 default).t = false then .inl ⟨15, (l0.getD 1 default).p⟩
    else match linesP [] L with
      | .inl e => .inl e
      | .inr [] => .inl ⟨6, s.size⟩
      | .inr xs => match tasksP (xs.map (·.name)) [] xs with
        | .inl e => .inl e
        | .inr ts => .inr ⟨(l0.getD 1 default).t, ts⟩
end Go.Proofs.YtcddbpdebklhnaaGreatDoor

/-
  A text's words lie in it where they are said to lie, and there are not too many of them. No program is named here. Plain words of manifests: names, numbers, labels; a line of words as a task; a text as a pipeline, or what is first wrong. No program is named here. A loop over a function that keeps its place in variables of its own ('bad': their blocks): what the function is asked for (Iter), what the loop's body is, and what stands behind the loop. No program is named here.
-/
import Derived.Test.YtfjaibaidpbppaaGreatDoorLexP
import Derived.Test.YtfjaibaidpbppaaGreatDoorLabelP
import Derived.RangeFuncNested
import Derived.RangeFuncLeaves
import Derived.RangeFuncBound
import Derived.Below
namespace Go.Proofs.YtfjaibaidpbppaaGreatDoor

/-- The word lies in the text at its place. -/
def Lies (s : ByteArray) (x : Wd) : Prop := x.p + x.t.size ≤ s.size ∧ s.extract x.p (x.p + x.t.size) = x.t
structure LxOk (s : ByteArray) (k : Nat) (st : LxS) : Prop where
  o1 : st.out.length ≤ k
  o2 : ∀ l ∈ st.out, l.length ≤ k ∧ ∀ x ∈ l, Lies s x
  l1 : st.line.length ≤ k
  l2 : ∀ x ∈ st.line, Lies s x
  w1 : st.word ≠ .empty → st.at_ ≤ k ∧ st.word = s.extract st.at_ k
section
variable {s : ByteArray} {k : Nat} {st : LxS}
theorem ok_done (h : LxOk s k st) (hk : k ≤ s.size) : st.done.length ≤ k + 1 ∧ ∀ x ∈ st.done, Lies s x := by
  unfold LxS.done
  have h1 := h.l1
  by_cases hw : st.word = .empty
  · rw [if_pos hw]
    exact ⟨by omega, h.l2⟩
  · rw [if_neg hw]
    obtain ⟨ha, he⟩ := h.w1 hw
    refine ⟨by simp; omega, fun x hx => ?_⟩
    rcases List.mem_append.1 hx with hx | hx
    · exact h.l2 x hx
    · obtain rfl := List.mem_singleton.1 hx
      have hs : st.word.size = k - st.at_ := by rw [he, ByteArray.size_extract]; omega
      refine ⟨by show st.at_ + st.word.size ≤ s.size; omega, ?_⟩
      show s.extract st.at_ (st.at_ + st.word.size) = st.word
      rw [show st.at_ + st.word.size = k by omega, ← he]
theorem ok_push (h : LxOk s k st) : LxOk s (k + 1) (st.push (s.extract k (k + 1)) k) := by
  have h1 := h.l1
  have h2 := h.o1
  refine ⟨Nat.le_succ_of_le h2, fun l hl => ⟨Nat.le_succ_of_le (h.o2 l hl).1, (h.o2 l hl).2⟩, Nat.le_succ_of_le h1, h.l2, fun _ => ?_⟩
  show (if st.word = .empty then k else st.at_) ≤ k + 1 ∧ st.word ++ s.extract k (k + 1) = s.extract (if st.word = .empty then k else st.at_) (k + 1)
  by_cases hw : st.word = .empty
  · rw [if_pos hw, hw]
    exact ⟨by omega, ByteArray.empty_append⟩
  · rw [if_neg hw]
    obtain ⟨ha, he⟩ := h.w1 hw
    refine ⟨by omega, ?_⟩
    rw [he]
    apply bl_inj
    rw [bl_append, bl_extract, bl_extract, bl_extract]
    rw [List.drop_take, List.drop_take, List.drop_take]
    rw [show k + 1 - st.at_ = (k - st.at_) + 1 by omega, List.take_add (l := (bl s).drop st.at_), List.drop_drop, show st.at_ + (k - st.at_) = k by omega, show k + 1 - k = 1 by omega]
theorem ok_space (h : LxOk s k st) (hk : k ≤ s.size) : LxOk s (k + 1) st.space := by
  obtain ⟨d1, d2⟩ := ok_done h hk
  exact ⟨Nat.le_succ_of_le h.o1, fun l hl => ⟨Nat.le_succ_of_le (h.o2 l hl).1, (h.o2 l hl).2⟩, d1, d2, fun hn => absurd rfl hn⟩
theorem ok_feed (h : LxOk s k st) (hk : k ≤ s.size) : LxOk s (k + 1) st.feed := by
  obtain ⟨d1, d2⟩ := ok_done h hk
  have h2 := h.o1
  refine ⟨?_, ?_, Nat.zero_le _, fun x hx => absurd hx (by show x ∉ []; simp), fun hn => absurd rfl hn⟩
  · show (if st.done = [] then st.out else st.out ++ [st.done]).length ≤ k + 1
    split
    · omega
    · simp; omega
  · show ∀ l ∈ (if st.done = [] then st.out else st.out ++ [st.done]), l.length ≤ k + 1 ∧ ∀ x ∈ l, Lies s x
    intro l hl
    split at hl
    · exact ⟨Nat.le_succ_of_le (h.o2 l hl).1, (h.o2 l hl).2⟩
    · rcases List.mem_append.1 hl with hl | hl
      · exact ⟨Nat.le_succ_of_le (h.o2 l hl).1, (h.o2 l hl).2⟩
      · obtain rfl := List.mem_singleton.1 hl
        exact ⟨d1, d2⟩
end
theorem lexGo_ok (s : ByteArray) : ∀ (f k : Nat) (st : LxS) (L : List (List Wd)), k + f = s.size → LxOk s k st → lexGo s f k st = .good L → L.length ≤ s.size + 1 ∧ ∀ l ∈ L, l.length ≤ s.size + 1 ∧ ∀ x ∈ l, Lies s x
  | 0, k, st, L, hk, h, e => by
    have h2 := ok_feed h (by omega)
    obtain rfl : st.feed.out = L := by
      rw [lexGo_end] at e
      injection e
    obtain rfl : k = s.size := by omega
    exact ⟨h2.o1, h2.o2⟩
  | f + 1, k, st, L, hk, h, e => by
    by_cases h1 : 32 < byL s k ∧ byL s k < 127
    · rw [lexGo_word h1.1 h1.2] at e
      exact lexGo_ok s f (k + 1) _ L (by omega) (ok_push h) e
    · by_cases h2 : byL s k = 10
      · rw [lexGo_feed h2] at e
        exact lexGo_ok s f (k + 1) _ L (by omega) (ok_feed h (by omega)) e
      · by_cases h3 : byL s k = 32
        · rw [lexGo_space h3] at e
          exact lexGo_ok s f (k + 1) _ L (by omega) (ok_space h (by omega)) e
        · rw [lexGo_bad h1 h2 h3] at e
          cases e
theorem lexP_ok {s : ByteArray} {L : List (List Wd)} (h : lexP s = .good L) : L.length ≤ s.size + 1 ∧ ∀ l ∈ L, l.length ≤ s.size + 1 ∧ ∀ x ∈ l, Lies s x := by
  unfold lexP at h
  split at h
  · cases h
  · exact lexGo_ok s s.size 0 lx0 L (by omega) ⟨Nat.le_refl _, fun l hl => absurd hl (by show l ∉ []; simp), Nat.le_refl _, fun l hl => absurd hl (by show l ∉ []; simp), fun hn => absurd rfl hn⟩ h
theorem lexGo_wrong (s : ByteArray) : ∀ (f k : Nat) (st : LxS) (x p : Nat), lexGo s f k st = .bad x p → x = 3
  | 0, k, st, x, p, e => by rw [lexGo_end] at e; cases e
  | f + 1, k, st, x, p, e => by
    by_cases h1 : 32 < byL s k ∧ byL s k < 127
    · rw [lexGo_word h1.1 h1.2] at e
      exact lexGo_wrong s f _ _ x p e
    · by_cases h2 : byL s k = 10
      · rw [lexGo_feed h2] at e
        exact lexGo_wrong s f _ _ x p e
      · by_cases h3 : byL s k = 32
        · rw [lexGo_space h3] at e
          exact lexGo_wrong s f _ _ x p e
        · rw [lexGo_bad h1 h2 h3] at e
          injection e with e1 _
          exact e1.symm
theorem lexP_bad {s : ByteArray} {x p : Nat} (h : lexP s = .bad x p) : (x : Int) ≠ 0 := by
  unfold lexP at h
  split at h
  · injection h with e1 _
    omega
  · have := lexGo_wrong s _ _ _ x p h
    omega
end Go.Proofs.YtfjaibaidpbppaaGreatDoor

namespace Go.Proofs.YtfjaibaidpbppaaGreatDoor

/-- Is it in the list? Its place. -/
def memB (x : ByteArray) (l : List ByteArray) : Bool := l.any (fun y => decide (y = x))
theorem memB_iff {x : ByteArray} {l : List ByteArray} : memB x l = true ↔ x ∈ l := by
  unfold memB
  rw [List.any_eq_true]
  constructor
  · rintro ⟨y, hy, h⟩
    rw [← of_decide_eq_true h]
    exact hy
  · intro h
    exact ⟨x, h, decide_eq_true rfl⟩
def findP (l : List ByteArray) (x : ByteArray) : Option Nat := l.findIdx? (fun y => decide (y = x))
instance : Inhabited Wd := ⟨⟨.empty, 0⟩⟩
/-- A name. -/
abbrev nameOk (s : ByteArray) : Prop := 1 ≤ s.size ∧ s.size ≤ 8 ∧ ∀ j, j < s.size → 97 ≤ byL s j ∧ byL s j ≤ 122
def nameP (s : ByteArray) : Bool := decide (nameOk s)
/-- Digits, without noughts ahead; the value of the first k. -/
abbrev numOk (s : ByteArray) : Prop := 1 ≤ s.size ∧ s.size ≤ 9 ∧ (1 < s.size → byL s 0 ≠ 48) ∧ ∀ j, j < s.size → 48 ≤ byL s j ∧ byL s j ≤ 57
def valN (s : ByteArray) : Nat → Int
  | 0 => 0
  | k + 1 => 10 * valN s k + (byL s k - 48)
def numP (s : ByteArray) (lo hi : Int) : Option Int := if numOk s ∧ lo ≤ valN s s.size ∧ valN s s.size ≤ hi then some (valN s s.size) else none
instance (s : ByteArray) (k : Nat) : Decidable (digitsTo s k) := by unfold digitsTo; infer_instance
instance (s : ByteArray) : Decidable (GoodText s) := by unfold GoodText; infer_instance
def labP (s : ByteArray) : Option (Int × Int) := if GoodText s then some (hexI (byteN s 0), setV s 4) else none
/-- A word's parts between commas, or the place of the first one that is no name. -/
def namesGo (s : ByteArray) (p : Nat) : Nat → Nat → Nat → List Wd → List Wd ⊕ Nat
  | 0, fr, i, out => if nameP (s.extract fr i) then .inl (out ++ [⟨s.extract fr i, p + fr⟩]) else .inr (p + fr)
  | f + 1, fr, i, out =>
    if byL s i = 44 then (if nameP (s.extract fr i) then namesGo s p f (i + 1) (i + 1) (out ++ [⟨s.extract fr i, p + fr⟩]) else .inr (p + fr))
    else namesGo s p f fr (i + 1) out
def namesP (w : Wd) : List Wd ⊕ Nat := namesGo w.t w.p w.t.size 0 0 []
/-- The place of the first one that stood there ahead. -/
def dupGo (l : List Wd) : Nat → Nat → Option Nat
  | 0, _ => none
  | f + 1, i => if memB (l.getD i default).t ((l.take i).map (·.t)) then some (l.getD i default).p else dupGo l f (i + 1)
def dupP (l : List Wd) : Option Nat := dupGo l l.length 0

abbrev sAfter : ByteArray := ⟨#[97, 102, 116, 101, 114]⟩
abbrev sTime : ByteArray := ⟨#[116, 105, 109, 101]⟩
abbrev sTo : ByteArray := ⟨#[116, 111]⟩
abbrev sNeed : ByteArray := ⟨#[110, 101, 101, 100]⟩
abbrev sRetry : ByteArray := ⟨#[114, 101, 116, 114, 121]⟩
abbrev sTask : ByteArray := ⟨#[116, 97, 115, 107]⟩
abbrev sGate : ByteArray := ⟨#[103, 97, 116, 101]⟩
abbrev sPipe : ByteArray := ⟨#[112, 105, 112, 101]⟩
/-- A task's line. -/
structure LnP where
  name : ByteArray
  retry : Int
  time : Int
  need : Int
  lv : Int
  st : Int
  after : List Wd
/-- A fault: its number, its place. -/
structure FaP where
  e : Nat
  p : Nat
def wordsP (gate : Bool) : List ByteArray := if gate then [sAfter, sTime, sTo, sNeed] else [sAfter, sTime, sRetry]
def valueP (x : LnP) (word : ByteArray) (w : Wd) : FaP ⊕ LnP :=
  if word = sAfter then (match namesP w with
    | .inr p => .inl ⟨15, p⟩
    | .inl l => match dupP l with
      | some p => .inl ⟨7, p⟩
      | none => .inr { x with after := l })
  else if word = sTo then (match labP w.t with
    | none => .inl ⟨3, w.p⟩
    | some (a, b) => .inr { x with lv := a, st := b })
  else if word = sRetry then (match numP w.t 0 5 with
    | none => .inl ⟨16, w.p⟩
    | some n => .inr { x with retry := n })
  else if word = sTime then (match numP w.t 1 100 with
    | none => .inl ⟨16, w.p⟩
    | some n => .inr { x with time := n })
  else if word = sNeed then (match numP w.t 1 4 with
    | none => .inl ⟨16, w.p⟩
    | some n => .inr { x with need := n })
  else .inr x
/-- A line's pairs. -/
def pairsP (gate : Bool) (seen : List ByteArray) (x : LnP) : List Wd → FaP ⊕ (LnP × List ByteArray)
  | [] => .inr (x, seen)
  | [a] => if memB a.t (wordsP gate) = false then .inl ⟨17, a.p⟩ else if memB a.t seen then .inl ⟨7, a.p⟩ else .inl ⟨3, a.p⟩
  | a :: b :: r => if memB a.t (wordsP gate) = false then .inl ⟨17, a.p⟩ else if memB a.t seen then .inl ⟨7, a.p⟩ else
    match valueP x a.t b with
    | .inl e => .inl e
    | .inr x' => pairsP gate (seen ++ [a.t]) x' r
def ln0 (name : ByteArray) : LnP := ⟨name, 0, 5, 0, 0, 0, []⟩
def lineP (l : List Wd) (names : List ByteArray) : FaP ⊕ LnP :=
  let a := l.getD 0 default
  let b := l.getD 1 default
  if names.length = 8 then .inl ⟨16, a.p⟩
  else if a.t ≠ sTask ∧ a.t ≠ sGate then .inl ⟨17, a.p⟩
  else if l.length < 2 then .inl ⟨3, a.p⟩
  else if nameP b.t = false then .inl ⟨15, b.p⟩
  else if memB b.t names then .inl ⟨7, b.p⟩
  else match pairsP (decide (a.t = sGate)) [] (ln0 b.t) (l.drop 2) with
    | .inl e => .inl e
    | .inr (x, seen) => if a.t = sGate ∧ (memB sTo seen = false ∨ memB sNeed seen = false) then .inl ⟨3, a.p⟩ else .inr x
/-- The lines' tasks. -/
def linesP (acc : List LnP) : List (List Wd) → FaP ⊕ List LnP
  | [] => .inr acc
  | l :: L => match lineP l (acc.map (·.name)) with
    | .inl e => .inl e
    | .inr x => linesP (acc ++ [x]) L
structure TkP where
  name : ByteArray
  after : List Nat
  retry : Int
  time : Int
  need : Int
  lv : Int
  st : Int
structure PiP where
  name : ByteArray
  tasks : List TkP
/-- The places of names. -/
def placesP (names : List ByteArray) (acc : List Nat) : List Wd → FaP ⊕ List Nat
  | [] => .inr acc
  | w :: l => match findP names w.t with
    | none => .inl ⟨6, w.p⟩
    | some n => placesP names (acc ++ [n]) l
def tasksP (names : List ByteArray) (acc : List TkP) : List LnP → FaP ⊕ List TkP
  | [] => .inr acc
  | x :: l => match placesP names [] x.after with
    | .inl e => .inl e
    | .inr a => tasksP names (acc ++ [⟨x.name, a, x.retry, x.time, x.need, x.lv, x.st⟩]) l
/-- What any text is. -/
def parseP (s : ByteArray) : FaP ⊕ PiP :=
  match lexP s with
  | .bad e p => .inl ⟨e, p⟩
  | .good [] => .inl ⟨6, s.size⟩
  | .good (l0 :: L) =>
    if (l0.getD 0 default).t ≠ sPipe then .inl ⟨17, (l0.getD 0 default).p⟩
    else if l0.length ≠ 2 then .inl ⟨3, (l0.getD 0 default).p⟩
    else if nameP (l0.getD 1 default).t = false then .inl ⟨15, (l0.getD 1 default).p⟩
    else match linesP [] L with
      | .inl e => .inl e
      | .inr [] => .inl ⟨6, s.size⟩
      | .inr xs => match tasksP (xs.map (·.name)) [] xs with
        | .inl e => .inl e
        | .inr ts => .inr ⟨(l0.getD 1 default).t, ts⟩
end Go.Proofs.YtfjaibaidpbppaaGreatDoor

namespace Go.Proofs.YtfjaibaidpbppaaGreatDoor
open Go Go.RowKit

/-- What lay outside the blocks 'bad' lies as it lay. -/
structure Apart (bad : Nat → Prop) (W W' : World) : Prop where
  os : W'.os = W.os
  tape : W'.tape = W.tape
  output : W'.output = W.output
  size : W.heap.size ≤ W'.heap.size
  block : ∀ b, b < W.heap.size → ¬ bad b → W'.heap[b]? = W.heap[b]?
/-- The blocks 'bad' lie as they lay. -/
structure Keeps (bad : Nat → Prop) (W W' : World) : Prop where
  size : W.heap.size ≤ W'.heap.size
  block : ∀ b, bad b → b < W.heap.size → W'.heap[b]? = W.heap[b]?
section
variable {bad bad2 : Nat → Prop} {W W' V : World}
theorem Apart.refl (bad : Nat → Prop) (W : World) : Apart bad W W := ⟨rfl, rfl, rfl, Nat.le_refl _, fun _ _ _ => rfl⟩
theorem Apart.trans (h : Apart bad W W') (k : Apart bad W' V) : Apart bad W V :=
  ⟨k.os.trans h.os, k.tape.trans h.tape, k.output.trans h.output, Nat.le_trans h.size k.size, fun b hb hn => (k.block b (Nat.lt_of_lt_of_le hb h.size) hn).trans (h.block b hb hn)⟩
theorem Apart.mono (h : Apart bad W W') (hb : ∀ b, bad b → bad2 b) : Apart bad2 W W' := ⟨h.os, h.tape, h.output, h.size, fun b hl hn => h.block b hl (fun hx => hn (hb b hx))⟩
theorem Apart.put {l : Nat} {o : Obj} (hb : bad l) : Apart bad W (W.putObj l o) := ⟨rfl, rfl, rfl, by simp, fun b _ hn => World.putObj_heap_other (fun e => hn (e ▸ hb))⟩
theorem Apart.set {B i : Nat} {v : Value} (hb : bad B) : Apart bad W (W.setCell ⟨B, i, none⟩ v) := ⟨rfl, rfl, rfl, by simp [World.setCell], fun b _ hn => Below.heap_setCell W ⟨B, i, none⟩ v b (fun e => hn (by rw [e]; exact hb))⟩
theorem Apart.more {o : Obj} : Apart bad W (W.alloc o) := ⟨rfl, rfl, rfl, by simp, fun b hl _ => Below.heap_alloc W o b hl⟩
theorem Apart.drew : Apart bad W W.drew := ⟨rfl, rfl, rfl, Nat.le_refl _, fun _ _ _ => rfl⟩
theorem Apart.below {n : Nat} (h : Apart bad W W') (hb : ∀ b, bad b → n ≤ b) (hn : n ≤ W.heap.size) : Below n W W' :=
  ⟨h.os, h.tape, h.output, h.size, fun k hk => h.block k (by omega) (fun hx => by have := hb k hx; omega)⟩
theorem Keeps.refl (bad : Nat → Prop) (W : World) : Keeps bad W W := ⟨Nat.le_refl _, fun _ _ _ => rfl⟩
theorem Keeps.trans (h : Keeps bad W W') (k : Keeps bad W' V) : Keeps bad W V := ⟨Nat.le_trans h.size k.size, fun b hb hl => (k.block b hb (Nat.lt_of_lt_of_le hl h.size)).trans (h.block b hb hl)⟩
theorem Keeps.of_below (h : Below W.heap.size W W') : Keeps bad W W' := ⟨h.size, fun b _ hl => h.block b hl⟩
theorem Keeps.set {B i : Nat} {v : Value} (hB : ∀ b, bad b → b < W.heap.size → b ≠ B) : Keeps bad W (W.setCell ⟨B, i, none⟩ v) := ⟨by simp [World.setCell], fun b hb hl => Below.heap_setCell W ⟨B, i, none⟩ v b (hB b hb hl)⟩
theorem Keeps.drew : Keeps bad W W.drew := ⟨Nat.le_refl _, fun _ _ _ => rfl⟩
theorem Keeps.grown {row : Option Nat} (h : W.grownBy W' row) (hr : ∀ b, bad b → b < W.heap.size → some b ≠ row) : Keeps bad W W' := ⟨h.size, fun b hb hl => h.block b hl (hr b hb hl)⟩
end

/-- What a function that is gone over is asked for: it hands over N elements one behind the other, unless a round says 'no more'; it changes nothing but its own blocks. -/
def Iter (F : Fence) (n : Nat) (P : Program) (g : Nat) (lb : Array Value) (bad : Nat → Prop) (encs : Nat → Array Value) (N : Nat) (w : World) : Prop :=
  ∀ (l : Nat) (J : Nat → World → Prop) (Jx : World → Prop) (W : World), Keeps bad w W →
    (∀ k A B, J k A → Apart bad A B → J k B) → (∀ A B, Jx A → Apart bad A B → Jx B) →
    (∀ k A, k < N → J k A → YieldAt F (n - 1) P l (encs k) A fun e B => (e = .returned (.bool true) ∧ J (k + 1) B ∧ Keeps bad A B) ∨ (e = .returned (.bool false) ∧ Jx B)) →
    J 0 W → CallsIn F n P g (#[.func (.yield l) #[] #[]] ++ lb) W fun e B => (∃ v, e = .returned v) ∧ (J N B ∨ Jx B)

/-- How a round's body is left: off its end, or by a return. -/
def roundLeft (bad : Nat → Prop) (I : World → Prop) (Ix : World → Prop) (W : World) : Exit → Act → World → Prop
  | .normal, _, B => Keeps bad W B ∧ I B
  | .ret, _, B => Keeps bad W B ∧ Ix B
  | _, _, _ => False

/-- The statement. -/
theorem wpIn_range {F : Fence} {n : Nat} {P : Program} {g : Operand} {ps : Array Tmp} {assign body : Code} {Q : Exit → Act → World → Prop} {a : Act} {w : World}
    (hro : F.round = none) (h1 : 1 ≤ n) {gf : Nat} {lb : Array Value} (hg : a.eval g = .func (.func gf) #[] lb) (hFg : F.fn gf) (eg : ∀ args w, (callFunc gf args).run P w = .ok (.enter gf args) w)
    {bad all : Nat → Prop} {encs : Nat → Array Value} {N : Nat} (hbad : ∀ b, bad b → b < w.heap.size) (hall : ∀ b, all b ↔ bad b ∨ b = w.heap.size ∨ b = w.heap.size + 1) (hseq : Iter F (n - 1) P gf lb bad encs N w) (hps : ∀ k, (encs k).size = ps.size)
    (I : Nat → World → Prop) (Ix : World → Prop) (Ax : Nat → Act → World → Prop)
    (hI : ∀ k A B, I k A → Apart all A B → I k B) (hIx : ∀ A B, Ix A → Apart all A B → Ix B) (hAx : ∀ k a' A B, Ax k a' A → Apart all A B → Ax k a' B) (h0 : I 0 w)
    (hassign : ∀ k W, k < N → w.heap.size + 1 < W.heap.size → I k W → assign.wpIn (F.inRound (w.heap.size + 1)) (n - 1 - 1) P (Exit.then (fun a' B => Keeps all W B ∧ Ax k a' B) (fun _ _ _ => False)) { tmps := (ps.zip (encs k)).foldl (fun t (p, v) => t.setIfInBounds p v) a.tmps, defers := [] } W)
    (hbody : ∀ k a' W, k < N → w.heap.size + 1 < W.heap.size → Ax k a' W → body.wpIn (F.inRound (w.heap.size + 1)) (n - 1 - 1) P (roundLeft all (I (k + 1)) Ix W) a' W)
    (hdone : ∀ W, I N W → W.heap[w.heap.size]? = some (.deferred (some [])) → Q .normal { a with defers := { target := .collected w.heap.size, args := #[] } :: a.defers } W)
    (hstop : ∀ W, Ix W → W.heap[w.heap.size]? = some (.deferred (some [])) → Code.ret.wpIn F n P Q { a with defers := { target := .collected w.heap.size, args := #[] } :: a.defers } W) :
    (Code.rangeFunc g ps assign body).wpIn F n P Q a w := by
  have allL : all (w.heap.size + 1) := (hall _).2 (.inr (.inr rfl))
  have allD : all w.heap.size := (hall _).2 (.inr (.inl rfl))
  have sub : ∀ b, bad b → all b := fun b hb => (hall b).2 (.inl hb)
  have nL : ¬ bad (w.heap.size + 1) := fun h => by have := hbad _ h; omega
  have nD : ¬ bad w.heap.size := fun h => by have := hbad _ h; omega
  refine wpIn_rangeFunc fun fn hfn => ?_
  obtain ⟨r, hr⟩ : ∃ r : LoopState → Option Code → Loop, r = fun st pe => { state := st, pending := pe, fn, tmps := a.tmps, params := ps, assign, body, defers := w.heap.size } := ⟨_, rfl⟩
  obtain ⟨V, hV⟩ : ∃ V, (w.alloc (.deferred (some []))).alloc (.loop (r .ready none)) = V := ⟨_, rfl⟩
  have apV : Apart all w V := by rw [← hV]; exact Apart.more.trans Apart.more
  have keV : Keeps bad w V := ⟨apV.size, fun b _ hl => by rw [← hV, Below.heap_alloc _ _ _ (by simp; omega), Below.heap_alloc _ _ _ hl]⟩
  have eL : V.heap[w.heap.size + 1]? = some (.loop (r .ready none)) := by
    rw [← hV]
    have := World.alloc_heap_new (w.alloc (.deferred (some []))) (.loop (r .ready none))
    rwa [World.size_alloc] at this
  have eD : V.heap[w.heap.size]? = some (.deferred (some [])) := by rw [← hV]; exact (Below.heap_alloc _ _ _ (by simp)).trans (World.alloc_heap_new w _)
  rw [hro]
  refine ⟨w.heap.size + 1, [{ target := .collected w.heap.size, args := #[] }], V, { target := .fn (.func gf) lb, args := #[.func (.yield (w.heap.size + 1)) #[] #[]] }, V, gf, #[.func (.yield (w.heap.size + 1)) #[] #[]] ++ lb, V, ?_, ?_, ?_, ?_, fun _ => h1, ?_⟩
  · rw [← hV, hr]; exact run_enterLoop_outer _ _ _ _ _
  · simp only [resolve, hg]; simp [go_sem]
  · intro f hf
    obtain rfl : gf = f := by simpa [Target.leads] using hf
    exact hFg
  · simp [invoke, go_sem, eg]
  -- what stands between two rounds, the loop's two blocks beside it
  have apart : ∀ {A B : World} {k : Nat} {o : Obj}, k = w.heap.size ∨ k = w.heap.size + 1 → A.heap[k]? = some o → Apart bad A B → B.heap[k]? = some o := fun hk h hb =>
    (hb.block _ (Array.getElem?_eq_some_iff.1 h).1 (by rcases hk with rfl | rfl <;> assumption)).trans h
  refine (hseq (w.heap.size + 1) (fun k W => I k W ∧ W.heap[w.heap.size + 1]? = some (.loop (r .ready none)) ∧ W.heap[w.heap.size]? = some (.deferred (some [])))
    (fun W => Ix W ∧ W.heap[w.heap.size + 1]? = some (.loop (r .done (some .ret))) ∧ W.heap[w.heap.size]? = some (.deferred (some []))) V keV
    (fun k A B ⟨i, l, d⟩ h => ⟨hI k A B i (h.mono sub), apart (.inr rfl) l h, apart (.inl rfl) d h⟩)
    (fun A B ⟨i, l, d⟩ h => ⟨hIx A B i (h.mono sub), apart (.inr rfl) l h, apart (.inl rfl) d h⟩) ?_ ⟨hI _ _ _ h0 apV, eL, eD⟩).mono ?_
  · rintro k W hk ⟨i, l, d⟩
    have hlt := (Array.getElem?_eq_some_iff.1 l).1
    have hy := run_yield (P := P) (args := encs k) l (by rw [hr]; exact hps k)
    rw [hr] at hy
    refine ⟨fn, _, assign, body, hy, roundIn_of_wpIn hfn (wpIn_mono (hassign k W hk hlt i) ?_)⟩
    rintro e a' A hA
    cases e with
    | normal =>
      obtain ⟨kA, xA⟩ := hA
      have lA := (kA.block _ allL hlt).trans l
      have hA1 := (Array.getElem?_eq_some_iff.1 lA).1
      refine ⟨_, run_beginRound lA (by rw [hr]), ?_⟩
      obtain ⟨B, hB⟩ : ∃ B, A.putObj (w.heap.size + 1) (.loop { r .ready none with state := .busy }) = B := ⟨_, rfl⟩
      rw [hB]
      have lB : B.heap[w.heap.size + 1]? = some (.loop { r .ready none with state := .busy }) := by rw [← hB]; exact World.putObj_heap_same hA1
      have dB : B.heap[w.heap.size]? = some (.deferred (some [])) := by rw [← hB]; exact (World.putObj_heap_other (by omega)).trans ((kA.block _ allD (by omega)).trans d)
      have sB : A.heap.size = B.heap.size := by rw [← hB]; simp
      have apB : Apart all A B := by rw [← hB]; exact Apart.put allL
      have bB : ∀ b, bad b → B.heap[b]? = A.heap[b]? := fun b hb => by rw [← hB]; exact World.putObj_heap_other (fun e => nL (e ▸ hb))
      refine wpIn_mono (hbody k a' B hk (by omega) (hAx _ _ _ _ xA apB)) ?_
      -- a round's end
      have fin : ∀ (jump : Option Code) (C : World), Keeps all B C →
          ∃ E, (Instr.endRound (w.heap.size + 1) jump).run P C = .ok (.bool jump.isNone) E ∧ Apart all C E ∧ E.heap[w.heap.size + 1]? = some (.loop (r (if jump.isNone then .ready else .done) jump)) ∧ E.heap[w.heap.size]? = some (.deferred (some [])) ∧ Keeps bad W E := by
        intro jump C hC
        have lC := (hC.block _ allL (Array.getElem?_eq_some_iff.1 lB).1).trans lB
        have dC := (hC.block _ allD (Array.getElem?_eq_some_iff.1 dB).1).trans dB
        have hrun := run_endRound (P := P) jump lC
        rw [hr] at hrun
        refine ⟨_, hrun, Apart.put allL, ?_, (World.putObj_heap_other (by omega)).trans dC, ?_, ?_⟩
        · rw [World.putObj_heap_same (Array.getElem?_eq_some_iff.1 lC).1, hr]
        · have := kA.size
          have := hC.size
          simp
          omega
        · intro b hb hl
          refine (World.putObj_heap_other (fun e : b = w.heap.size + 1 => nL (e ▸ hb))).trans ((hC.block b (sub b hb) (by have := kA.size; omega)).trans ((bB b hb).trans (kA.block b (sub b hb) hl)))
      rintro e a3 C hC
      cases e with
      | normal =>
        obtain ⟨kC, iC⟩ := hC
        obtain ⟨E, hrun, apE, lE, dE, kE⟩ := fin none C kC
        exact ⟨_, E, hrun, .inl ⟨rfl, ⟨hI _ _ _ iC apE, lE, dE⟩, kE⟩⟩
      | ret =>
        obtain ⟨kC, iC⟩ := hC
        obtain ⟨E, hrun, apE, lE, dE, kE⟩ := fin (some .ret) C kC
        exact ⟨_, E, hrun, .inr ⟨rfl, hIx _ _ iC apE, lE, dE⟩⟩
      | exit id => exact hC.elim
      | goto t => exact hC.elim
      | panic ch => exact hC.elim
      | outgrown => exact hC.elim
    | ret => exact hA.elim
    | exit id => exact hA.elim
    | goto t => exact hA.elim
    | panic ch => exact hA.elim
    | outgrown => exact hA.elim
  · rintro e B ⟨⟨v, rfl⟩, ⟨i, l, d⟩ | ⟨i, l, d⟩⟩
    · have := run_endLoop (P := P) l (by rw [hr]; simp)
      rw [hr] at this
      exact ⟨none, _, this, hdone _ (hI _ _ _ i (Apart.put allL)) ((World.putObj_heap_other (by omega)).trans d)⟩
    · have := run_endLoop (P := P) l (by rw [hr]; simp)
      rw [hr] at this
      exact ⟨some .ret, _, this, hstop _ (hIx _ _ i (Apart.put allL)) ((World.putObj_heap_other (by omega)).trans d)⟩
end Go.Proofs.YtfjaibaidpbppaaGreatDoor

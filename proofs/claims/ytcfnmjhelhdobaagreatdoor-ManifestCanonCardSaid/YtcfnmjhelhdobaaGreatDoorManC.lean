/-
  Plain words of manifests: names, numbers, labels; a line of words as a task; a text as a pipeline, or what is first wrong. No program is named here. What the document's Name, Number, Label (package lockageref07) and find (lockageref08) answer. Conditions: texts and lists of a million bytes, or words, at most. What the document's Label (package lockageref07), find and words (lockageref08) answer. Conditions: lists of a million words at most. What the document's Names (package lockageref07) answers: a word's parts between commas, in a row of its own, or the place of the first that is no name. Conditions: a word of a million bytes at most, at a place below a million.
-/
import Derived.Test.YtcfnmjhelhdobaaGreatDoorLabelG
import Derived.Test.YtcfnmjhelhdobaaGreatDoorLexQ
import Derived.Test.YtcfnmjhelhdobaaGreatDoorProg
import Derived.Test.YtcfnmjhelhdobaaGreatDoorLexC
import Derived.WalkKit
import Derived.Outline
import Derived.Deep.DeepCutAuto
import Derived.Test.YtcfnmjhelhdobaaGreatDoorLexD
import Derived.BigRegion
namespace Go.Proofs.YtcfnmjhelhdobaaGreatDoor

/-- Is it in the list? Its place. -/
def memB (x : ByteArray) (l : List ByteArray) : Bool := l.any (fun y => decide (y = x))
theorem memB_iff {x : ByteArray} {l : List ByteArray} : memB x l = true ↔ x ∈ l := by
  unfold memB
  rw [List.any_eq_true]
  constructor
  · rintro ⟨y, hy, h⟩
    rw [← of_decide_eq_true h]
    exact hy
  · intro h
    exact ⟨x, h, decide_eq_true rfl⟩
def findP (l : List ByteArray) (x : ByteArray) : Option Nat := l.findIdx? (fun y => decide (y = x))
instance : Inhabited Wd := ⟨⟨.empty, 0⟩⟩
/-- A name. -/
abbrev nameOk (s : ByteArray) : Prop := 1 ≤ s.size ∧ s.size ≤ 8 ∧ ∀ j, j < s.size → 97 ≤ byL s j ∧ byL s j ≤ 122
def nameP (s : ByteArray) : Bool := decide (nameOk s)
/-- Digits, without noughts ahead; the value of the first k. -/
abbrev numOk (s : ByteArray) : Prop := 1 ≤ s.size ∧ s.size ≤ 9 ∧ (1 < s.size → byL s 0 ≠ 48) ∧ ∀ j, j < s.size → 48 ≤ byL s j ∧ byL s j ≤ 57
def valN (s : ByteArray) : Nat → Int
  | 0 => 0
  | k + 1 => 10 * valN s k + (byL s k - 48)
def numP (s : ByteArray) (lo hi : Int) : Option Int := if numOk s ∧ lo ≤ valN s s.size ∧ valN s s.size ≤ hi then some (valN s s.size) else none
instance (s : ByteArray) (k : Nat) : Decidable (digitsTo s k) := by unfold digitsTo; infer_instance
instance (s : ByteArray) : Decidable (GoodText s) := by unfold GoodText; infer_instance
def labP (s : ByteArray) : Option (Int × Int) := if GoodText s then some (hexI (byteN s 0), setV s 4) else none
/-- A word's parts between commas, or the place of the first one that is no name. -/
def namesGo (s : ByteArray) (p : Nat) : Nat → Nat → Nat → List Wd → List Wd ⊕ Nat
  | 0, fr, i, out => if nameP (s.extract fr i) then .inl (out ++ [⟨s.extract fr i, p + fr⟩]) else .inr (p + fr)
  | f + 1, fr, i, out =>
    if byL s i = 44 then (if nameP (s.extract fr i) then namesGo s p f (i + 1) (i + 1) (out ++ [⟨s.extract fr i, p + fr⟩]) else .inr (p + fr))
    else namesGo s p f fr (i + 1) out
def namesP (w : Wd) : List Wd ⊕ Nat := namesGo w.t w.p w.t.size 0 0 []
/-- The place of the first one that stood there ahead. -/
def dupGo (l : List Wd) : Nat → Nat → Option Nat
  | 0, _ => none
  | f + 1, i => if memB (l.getD i default).t ((l.take i).map (·.t)) then some (l.getD i default).p else dupGo l f (i + 1)
def dupP (l : List Wd) : Option Nat := dupGo l l.length 0

abbrev sAfter : ByteArray := ⟨#[97, 102, 116, 101, 114]⟩
abbrev sTime : ByteArray := ⟨#[116, 105, 109, 101]⟩
abbrev sTo : ByteArray := ⟨#[116, 111]⟩
abbrev sNeed : ByteArray := ⟨#[110, 101, 101, 100]⟩
abbrev sRetry : ByteArray := ⟨#[114, 101, 116, 114, 121]⟩
abbrev sTask : ByteArray := ⟨#[116, 97, 115, 107]⟩
abbrev sGate : ByteArray := ⟨#[103, 97, 116, 101]⟩
abbrev sPipe : ByteArray := ⟨#[112, 105, 112, 101]⟩
/-- A task's line. -/
structure LnP where
  name : ByteArray
  retry : Int
  time : Int
  need : Int
  lv : Int
  st : Int
  after : List Wd
/-- A fault: its number, its place. -/
structure FaP where
  e : Nat
  p : Nat
def wordsP (gate : Bool) : List ByteArray := if gate then [sAfter, sTime, sTo, sNeed] else [sAfter, sTime, sRetry]
def valueP (x : LnP) (word : ByteArray) (w : Wd) : FaP ⊕ LnP :=
  if word = sAfter then (match namesP w with
    | .inr p => .inl ⟨15, p⟩
    | .inl l => match dupP l with
      | some p => .inl ⟨7, p⟩
      | none => .inr { x with after := l })
  else if word = sTo then (match labP w.t with
    | none => .inl ⟨3, w.p⟩
    | some (a, b) => .inr { x with lv := a, st := b })
  else if word = sRetry then (match numP w.t 0 5 with
    | none => .inl ⟨16, w.p⟩
    | some n => .inr { x with retry := n })
  else if word = sTime then (match numP w.t 1 100 with
    | none => .inl ⟨16, w.p⟩
    | some n => .inr { x with time := n })
  else if word = sNeed then (match numP w.t 1 4 with
    | none => .inl ⟨16, w.p⟩
    | some n => .inr { x with need := n })
  else .inr x
/-- A line's pairs. -/
def pairsP (gate : Bool) (seen : List ByteArray) (x : LnP) : List Wd → FaP ⊕ (LnP × List ByteArray)
  | [] => .inr (x, seen)
  | [a] => if memB a.t (wordsP gate) = false then .inl ⟨17, a.p⟩ else if memB a.t seen then .inl ⟨7, a.p⟩ else .inl ⟨3, a.p⟩
  | a :: b :: r => if memB a.t (wordsP gate) = false then .inl ⟨17, a.p⟩ else if memB a.t seen then .inl ⟨7, a.p⟩ else
    match valueP x a.t b with
    | .inl e => .inl e
    | .inr x' => pairsP gate (seen ++ [a.t]) x' r
def ln0 (name : ByteArray) : LnP := ⟨name, 0, 5, 0, 0, 0, []⟩
def lineP (l : List Wd) (names : List ByteArray) : FaP ⊕ LnP :=
  let a := l.getD 0 default
  let b := l.getD 1 default
  if names.length = 8 then .inl ⟨16, a.p⟩
  else if a.t ≠ sTask ∧ a.t ≠ sGate then .inl ⟨17, a.p⟩
  else if l.length < 2 then .inl ⟨3, a.p⟩
  else if nameP b.t = false then .inl ⟨15, b.p⟩
  else if memB b.t names then .inl ⟨7, b.p⟩
  else match pairsP (decide (a.t = sGate)) [] (ln0 b.t) (l.drop 2) with
    | .inl e => .inl e
    | .inr (x, seen) => if a.t = sGate ∧ (memB sTo seen = false ∨ memB sNeed seen = false) then .inl ⟨3, a.p⟩ else .inr x
/-- The lines' tasks. -/
def linesP (acc : List LnP) : List (List Wd) → FaP ⊕ List LnP
  | [] => .inr acc
  | l :: L => match lineP l (acc.map (·.name)) with
    | .inl e => .inl e
    | .inr x => linesP (acc ++ [x]) L
structure TkP where
  name : ByteArray
  after : List Nat
  retry : Int
  time : Int
  need : Int
  lv : Int
  st : Int
structure PiP where
  name : ByteArray
  tasks : List TkP
/-- The places of names. -/
def placesP (names : List ByteArray) (acc : List Nat) : List Wd → FaP ⊕ List Nat
  | [] => .inr acc
  | w :: l => match findP names w.t with
    | none => .inl ⟨6, w.p⟩
    | some n => placesP names (acc ++ [n]) l
def tasksP (names : List ByteArray) (acc : List TkP) : List LnP → FaP ⊕ List TkP
  | [] => .inr acc
  | x :: l => match placesP names [] x.after with
    | .inl e => .inl e
    | .inr a => tasksP names (acc ++ [⟨x.name, a, x.retry, x.time, x.need, x.lv, x.st⟩]) l
/-- What any text is. -/
def parseP (s : ByteArray) : FaP ⊕ PiP :=
  match lexP s with
  | .bad e p => .inl ⟨e, p⟩
  | .good [] => .inl ⟨6, s.size⟩
  | .good (l0 :: L) =>
    if (l0.getD 0 default).t ≠ sPipe then .inl ⟨17, (l0.getD 0 default).p⟩
    else if l0.length ≠ 2 then .inl ⟨3, (l0.getD 0 default).p⟩
    else if nameP (l0.getD 1 default).t = false then .inl ⟨15, (l0.getD 1 default).p⟩
    else match linesP [] L with
      | .inl e => .inl e
      | .inr [] => .inl ⟨6, s.size⟩
      | .inr xs => match tasksP (xs.map (·.name)) [] xs with
        | .inl e => .inl e
        | .inr ts => .inr ⟨(l0.getD 1 default).t, ts⟩
end Go.Proofs.YtcfnmjhelhdobaaGreatDoor

namespace Go.Proofs.YtcfnmjhelhdobaaGreatDoor
open Go.RowKit

theorem nameP_no {s : ByteArray} (h : ¬ nameOk s) : nameP s = false := decide_eq_false h
theorem nameP_yes {s : ByteArray} (h : nameOk s) : nameP s = true := decide_eq_true h
set_option maxHeartbeats 1000000 in
set_option maxRecDepth 100000 in
theorem refname_is (s : ByteArray) (hs : s.size ≤ 1000000) (w : World) : Calls Tryz.prog 19 #[.string s] w fun e w' => e = .returned (.bool (nameP s)) ∧ w = w' := by
  obtain ⟨b, hb⟩ : ∃ b, b = nameP s := ⟨_, rfl⟩
  rw [← hb]
  have HB := Lib.hid hb
  have HBY := Lib.hid (byL_at s)
  clear hb
  go_enter Tryz.func19, Tryz.ntmps19
  go_wp2_with fail
  go_loopw [3] (fun i wr => ∃ k : Nat, i = .int .i64 k ∧ k ≤ s.size ∧ wr = w ∧ ∀ j, j < k → 97 ≤ byL s j ∧ byL s j ≤ 122) (fun i _ => s.size - (intOf i).toNat)
  case atStart => exact ⟨0, rfl, Nat.zero_le _, rfl, fun j h => absurd h (by omega)⟩
  case round =>
    obtain ⟨k, rfl, hk, rfl, hall⟩ := hrel
    have HALL := Lib.hid hall
    clear hall
    by_cases hlt : k < s.size
    · have hB : ∀ h : k < s.size, ((s[k]'h).toNat : Int) = byL s k := HBY.out k
      by_cases h1 : byL s k < 97
      · have HV := Lib.hid (show b = false from HB.out.trans (nameP_no (fun h => by have := h.2.2 k hlt; omega)))
        go_wp2_with fail
        go_ret
        exact ⟨by rw [HV.out]; rfl, rfl⟩
      · by_cases h2 : 122 < byL s k
        · have HV := Lib.hid (show b = false from HB.out.trans (nameP_no (fun h => by have := h.2.2 k hlt; omega)))
          go_wp2_with fail
          go_ret
          exact ⟨by rw [HV.out]; rfl, rfl⟩
        · go_wp2_with fail
          go_roundw
          case rel => exact ⟨k + 1, by go_num, by omega, trivial, fun j hj => by
            rcases Nat.lt_or_ge j k with h | h
            · exact HALL.out j h
            · obtain rfl : j = k := by omega
              omega⟩
          case measure => simp [intOf]; omega
    · obtain rfl : k = s.size := by omega
      by_cases h1 : (1 : Int) ≤ s.size
      · by_cases h2 : (s.size : Int) ≤ 8
        · have HV := Lib.hid (show b = true from HB.out.trans (nameP_yes ⟨by omega, by omega, HALL.out⟩))
          go_wp2_with fail
          go_ret
          exact ⟨by rw [HV.out]; rfl, rfl⟩
        · have HV := Lib.hid (show b = false from HB.out.trans (nameP_no (fun h => by have := h.2.1; omega)))
          go_wp2_with fail
          go_ret
          exact ⟨by rw [HV.out]; rfl, rfl⟩
      · have HV := Lib.hid (show b = false from HB.out.trans (nameP_no (fun h => by have := h.1; omega)))
        go_wp2_with fail
        go_ret
        exact ⟨by rw [HV.out]; rfl, rfl⟩

theorem valN_range {s : ByteArray} : ∀ k, k ≤ 9 → (∀ j, j < k → 48 ≤ byL s j ∧ byL s j ≤ 57) → 0 ≤ valN s k ∧ valN s k < 10 ^ k
  | 0, _, _ => by simp [valN]
  | k + 1, hk, h => by
    obtain ⟨a, b⟩ := valN_range k (by omega) (fun j hj => h j (by omega))
    have := h k (by omega)
    rw [show ((10 : Int) ^ (k + 1)) = 10 ^ k * 10 from Int.pow_succ ..]
    unfold valN
    omega
theorem valN_small {s : ByteArray} {k : Nat} (hk : k ≤ 9) (h : ∀ j, j < k → 48 ≤ byL s j ∧ byL s j ≤ 57) : 0 ≤ valN s k ∧ valN s k < 1000000000 := by
  obtain ⟨a, b⟩ := valN_range k hk h
  have : (10 : Int) ^ k ≤ 10 ^ 9 := by
    match k, hk with
    | 0, _ | 1, _ | 2, _ | 3, _ | 4, _ | 5, _ | 6, _ | 7, _ | 8, _ | 9, _ => decide
  omega
/-- What Number answers. -/
def numV : Option Int → Value
  | none => .tuple #[.int .i64 0, .bool false]
  | some n => .tuple #[.int .i64 n, .bool true]
theorem numP_no {s : ByteArray} {lo hi : Int} (h : ¬ numOk s) : numP s lo hi = none := if_neg (fun k => h k.1)
set_option maxHeartbeats 1000000 in
set_option maxRecDepth 100000 in
theorem refnumber_is (s : ByteArray) (lo hi : Int) (hs : s.size ≤ 1000000) (w : World) : Calls Tryz.prog 65 #[.string s, .int .i64 lo, .int .i64 hi] w fun e w' => e = .returned (numV (numP s lo hi)) ∧ w = w' := by
  obtain ⟨r, hr⟩ : ∃ r, r = numP s lo hi := ⟨_, rfl⟩
  rw [← hr]
  have HR := Lib.hid hr
  have HBY := Lib.hid (byL_at s)
  clear hr
  have bad : ∀ e : Prop, (numOk s → e) → ¬ e → r = none := fun e h n => HR.out.trans (numP_no (fun k => n (h k)))
  have BAD := Lib.hid bad
  clear bad
  by_cases h1 : (s.size : Int) < 1
  · go_enter Tryz.func65, Tryz.ntmps65
    have HV := Lib.hid (BAD.out (1 ≤ s.size) (fun h => h.1) (by omega))
    go_wp2_with fail
    refine bodyPost_ret (v := .tuple #[.int .i64 0, .bool false]) (by simp [results, Tryz.results65, go_sem]) rfl ⟨by rw [HV.out]; rfl, rfl⟩
  · by_cases h2 : 9 < (s.size : Int)
    · go_enter Tryz.func65, Tryz.ntmps65
      have HV := Lib.hid (BAD.out (s.size ≤ 9) (fun h => h.2.1) (by omega))
      go_wp2_with fail
      refine bodyPost_ret (v := .tuple #[.int .i64 0, .bool false]) (by simp [results, Tryz.results65, go_sem]) rfl ⟨by rw [HV.out]; rfl, rfl⟩
    · have hz : 0 < s.size := by omega
      have hB0 : ∀ h : 0 < s.size, ((s[0]'h).toNat : Int) = byL s 0 := HBY.out 0
      by_cases h3 : 1 < (s.size : Int) ∧ byL s 0 = 48
      · obtain ⟨h3, h4⟩ := h3
        go_enter Tryz.func65, Tryz.ntmps65
        have HV := Lib.hid (BAD.out (1 < s.size → byL s 0 ≠ 48) (fun h => h.2.2.1) (fun h => h (by omega) h4))
        go_wp2_with fail
        refine bodyPost_ret (v := .tuple #[.int .i64 0, .bool false]) (by simp [results, Tryz.results65, go_sem]) rfl ⟨by rw [HV.out]; rfl, rfl⟩
      · have h4 : 1 < s.size → byL s 0 ≠ 48 := fun a b => h3 ⟨by omega, b⟩
        have H4 := Lib.hid h4
        go_enter Tryz.func65, Tryz.ntmps65
        go_upto_region 2 with fail
        go_cut [27] (fun t wx => t = .bool false ∧ wx = w)
        case first =>
          by_cases h5 : 1 < (s.size : Int)
          · have h6 : (byL s 0 == 48) = false := beq_eq_false_iff_ne.2 (h4 (by omega))
            clear h3 h4
            go_wp2_with fail
            go_meet
            exact ⟨rfl, rfl⟩
          · clear h3 h4
            go_wp2_with fail
            go_meet
            exact ⟨rfl, rfl⟩
        case rest =>
        obtain ⟨rfl, rfl⟩ := hcut
        clear h3 h4
        go_wp2_with fail
        go_loopw [8, 9] (fun v i wr => ∃ k : Nat, i = .int .i64 k ∧ v = .int .i64 (valN s k) ∧ k ≤ s.size ∧ wr = wc ∧ ∀ j, j < k → 48 ≤ byL s j ∧ byL s j ≤ 57) (fun _ i _ => s.size - (intOf i).toNat)
        case atStart => exact ⟨0, rfl, rfl, Nat.zero_le _, by simp, fun j h => absurd h (by omega)⟩
        case round =>
          obtain ⟨k, rfl, rfl, hk, rfl, hall⟩ := hrel
          have HALL := Lib.hid hall
          obtain ⟨hv0, hv1⟩ := valN_small (by omega) hall
          clear hall
          by_cases hlt : k < s.size
          · have hB : ∀ h : k < s.size, ((s[k]'h).toNat : Int) = byL s k := HBY.out k
            by_cases h5 : byL s k < 48
            · have HV := Lib.hid (BAD.out _ (fun h => h.2.2.2) (fun h => by have := h k hlt; omega))
              go_wp2_with fail
              refine bodyPost_ret (v := .tuple #[.int .i64 0, .bool false]) (by simp [results, Tryz.results65, go_sem]) rfl ⟨by rw [HV.out]; rfl, rfl⟩
            · by_cases h6 : 57 < byL s k
              · have HV := Lib.hid (BAD.out _ (fun h => h.2.2.2) (fun h => by have := h k hlt; omega))
                go_wp2_with fail
                refine bodyPost_ret (v := .tuple #[.int .i64 0, .bool false]) (by simp [results, Tryz.results65, go_sem]) rfl ⟨by rw [HV.out]; rfl, rfl⟩
              · have HN := Lib.hid (show valN s (k + 1) = 10 * valN s k + (byL s k - 48) from rfl)
                have HC := Lib.hid (show 48 ≤ byL s k ∧ byL s k ≤ 57 by omega)
                generalize hv : valN s k = v at hv0 hv1 ⊢
                generalize hc : byL s k = c at hB h5 h6
                have HVC := Lib.hid (show valN s (k + 1) = 10 * v + (c - 48) by rw [HN.out, hv, hc])
                clear hv hc HN
                go_wp2_with fail
                go_roundw
                case rel => exact ⟨k + 1, by go_num, by rw [HVC.out], by omega, trivial, fun j hj => by
                  rcases Nat.lt_or_ge j k with h | h
                  · exact HALL.out j h
                  · obtain rfl : j = k := by omega
                    exact HC.out⟩
                case measure => simp [intOf]; omega
          · obtain rfl : k = s.size := by omega
            have HO := Lib.hid (show numOk s from ⟨by omega, by omega, H4.out, HALL.out⟩)
            by_cases h5 : valN s s.size < lo
            · have HV := Lib.hid (show r = none from HR.out.trans (if_neg (fun h => by have := h.2.1; omega)))
              generalize valN s s.size = v at *
              go_wp2_with fail
              refine bodyPost_ret (v := .tuple #[.int .i64 0, .bool false]) (by simp [results, Tryz.results65, go_sem]) rfl ⟨by rw [HV.out]; rfl, rfl⟩
            · by_cases h6 : hi < valN s s.size
              · have HV := Lib.hid (show r = none from HR.out.trans (if_neg (fun h => by have := h.2.2; omega)))
                generalize valN s s.size = v at *
                go_wp2_with fail
                refine bodyPost_ret (v := .tuple #[.int .i64 0, .bool false]) (by simp [results, Tryz.results65, go_sem]) rfl ⟨by rw [HV.out]; rfl, rfl⟩
              · have HV := Lib.hid (show r = some (valN s s.size) from HR.out.trans (if_pos ⟨HO.out, by omega, by omega⟩))
                generalize valN s s.size = v at *
                go_wp2_with fail
                refine bodyPost_ret (v := .tuple #[.int .i64 v, .bool true]) (by simp [results, Tryz.results65, go_sem]) rfl ⟨by rw [HV.out]; rfl, rfl⟩
end Go.Proofs.YtcfnmjhelhdobaaGreatDoor

namespace Go.Proofs.YtcfnmjhelhdobaaGreatDoor
open Go.RowKit

/-- What Label answers. -/
def labV : Option (Int × Int) → Value
  | none => .tuple #[.agg #[.int .i64 0, .int .u16 0], .bool false]
  | some (a, b) => .tuple #[.agg #[.int .i64 a, .int .u16 b], .bool true]
set_option maxHeartbeats 1000000 in
set_option maxRecDepth 100000 in
theorem reflabel_is (s : ByteArray) (w : World) : Calls Tryz.prog 64 #[.string s] w fun e w' => e = .returned (labV (labP s)) ∧ Below w.heap.size w w' := by
  have hb0 := (Below.refl w.heap.size w).alloc (Nat.le_refl _) (.cells #[.int .i64 0, .int .u16 0] 45)
  by_cases g : GoodText s
  · have hl : labP s = some (hexI (byteN s 0), setV s 4) := if_pos g
    have HP := Lib.hid (refparse_good s g (w.alloc (.cells #[.int .i64 0, .int .u16 0] 45)))
    have HB := Lib.hid hb0
    have HZ := Lib.hid (made_at w (.cells #[.int .i64 0, .int .u16 0] 45))
    rw [hl]
    clear hl hb0
    generalize hexI (byteN s 0) = a at *
    generalize setV s 4 = b at *
    go_enter Tryz.func64, Tryz.ntmps64
    go_wp2_with fail
    refine HP.out.mono ?_
    rintro e w1 ⟨rfl, hb1⟩
    have HZ1 := Lib.hid (later_at hb1 HZ.out)
    have HB1 := Lib.hid (below_step HB.out hb1)
    have z0 := cellH HZ1.out 0
    have z1 := cellH HZ1.out 1
    have zf := freeH HZ1.out
    simp at z0 z1
    clear hb1 HP HZ HB
    go_wp2_with fail
    have hz2 := row_set (row_set HZ1.out (i := 0) (v := .int .i64 a)) (i := 1) (v := .int .u16 b)
    have y0 := cellH hz2 0
    have y1 := cellH hz2 1
    simp at y0 y1
    refine bodyPost_ret (v := .tuple #[.agg #[.int .i64 a, .int .u16 b], .bool true]) (by simp [results, Tryz.results64, go_sem, y0, y1]) rfl ⟨rfl, (HB1.out.setCell (Nat.le_refl _) _).setCell (Nat.le_refl _) _⟩
  · have hl : labP s = none := if_neg g
    have HP := Lib.hid (refparse_bad s g (w.alloc (.cells #[.int .i64 0, .int .u16 0] 45)))
    have HB := Lib.hid hb0
    have HZ := Lib.hid (made_at w (.cells #[.int .i64 0, .int .u16 0] 45))
    rw [hl]
    clear hl hb0
    go_enter Tryz.func64, Tryz.ntmps64
    go_wp2_with fail
    refine HP.out.mono ?_
    rintro e w1 ⟨rfl, hb1⟩
    have HZ1 := Lib.hid (later_at hb1 HZ.out)
    have HB1 := Lib.hid (below_step HB.out hb1)
    have z0 := cellH HZ1.out 0
    have z1 := cellH HZ1.out 1
    have zf := freeH HZ1.out
    simp at z0 z1
    clear hb1 HP HZ HB
    go_wp2_with fail
    have hz2 := row_set (row_set HZ1.out (i := 0) (v := .int .i64 0)) (i := 1) (v := .int .u16 0)
    have y0 := cellH hz2 0
    have y1 := cellH hz2 1
    simp at y0 y1
    refine bodyPost_ret (v := .tuple #[.agg #[.int .i64 0, .int .u16 0], .bool false]) (by simp [results, Tryz.results64, go_sem, y0, y1]) rfl ⟨rfl, (HB1.out.setCell (Nat.le_refl _) _).setCell (Nat.le_refl _) _⟩

/-- The texts L stand at A. -/
def TextsAt (w : World) (A : Option Addr) (L : List ByteArray) : Prop := 0 < L.length → ∃ ad, A = some ad ∧ ∀ i s, L[i]? = some s → w.cell? (ad.add i) = some (.string s)
theorem TextsAt.later {w w' : World} {A : Option Addr} {L : List ByteArray} (h : TextsAt w A L) (hb : Below w.heap.size w w') : TextsAt w' A L := fun hn => by
  obtain ⟨ad, e, hc⟩ := h hn
  exact ⟨ad, e, fun i x hi => cell_later hb (hc i x hi)⟩
theorem TextsAt.at_ {w : World} {A : Option Addr} {L : List ByteArray} (h : TextsAt w A L) {i : Nat} {s : ByteArray} (hi : L[i]? = some s) : ∃ ad, A = some ad ∧ w.cell? (ad.add i) = some (.string s) := by
  obtain ⟨ad, e, hc⟩ := h (by have := (List.getElem?_eq_some_iff.1 hi).1; omega)
  exact ⟨ad, e, hc i s hi⟩
theorem findP_none {l : List ByteArray} {x : ByteArray} (h : ∀ j : Nat, j < l.length → l[j]? ≠ some x) : findP l x = none := by
  unfold findP
  rw [List.findIdx?_eq_none_iff]
  intro y hy
  obtain ⟨j, hj, rfl⟩ := List.mem_iff_getElem.1 hy
  exact decide_eq_false (fun e => h j hj (by rw [List.getElem?_eq_getElem hj, e]))
theorem findP_some {l : List ByteArray} {x : ByteArray} {k : Nat} (hk : l[k]? = some x) (h : ∀ j : Nat, j < k → l[j]? ≠ some x) : findP l x = some k := by
  have hlt := (List.getElem?_eq_some_iff.1 hk).1
  unfold findP
  rw [List.findIdx?_eq_some_iff_getElem]
  refine ⟨hlt, decide_eq_true ?_, fun j hj => ?_⟩
  · rw [List.getElem?_eq_getElem hlt] at hk
    exact Option.some.inj hk
  · have hj2 : j < l.length := by omega
    have := h j hj
    rw [List.getElem?_eq_getElem hj2] at this
    simpa using this
theorem memB_find (x : ByteArray) (l : List ByteArray) : memB x l = (findP l x).isSome := by
  unfold memB findP
  rw [List.findIdx?_isSome]
/-- A place, or -1. -/
def idxI : Option Nat → Int
  | none => -1
  | some k => k
theorem idxI_neg (o : Option Nat) : decide (idxI o < 0) = !o.isSome := by
  cases o with
  | none => rfl
  | some k => exact decide_eq_false (by show ¬ (k : Int) < 0; omega)
theorem idxI_pos (o : Option Nat) : decide (0 ≤ idxI o) = o.isSome := by
  cases o with
  | none => rfl
  | some k => exact decide_eq_true (by show (0 : Int) ≤ k; omega)
theorem ba_same {s t : ByteArray} : (s.toList == t.toList) = decide (s = t) := by
  rw [Bool.eq_iff_iff]
  simp only [beq_iff_eq, decide_eq_true_eq, Go.ByteArray.toList_eq]
  constructor
  · intro h
    exact ByteArray.ext (Array.toList_inj.1 h)
  · intro h
    rw [h]
set_option maxHeartbeats 1000000 in
set_option maxRecDepth 100000 in
theorem find_is {A : Option Addr} {c : Nat} {l : List ByteArray} {w : World} (hA : TextsAt w A l) (hl : l.length ≤ 1000000) (x : ByteArray) : Calls Tryz.prog 21 #[.slice A l.length c, .string x] w fun e w' => e = .returned (.int .i64 (idxI (findP l x))) ∧ w = w' := by
  obtain ⟨r, hr⟩ : ∃ r, r = findP l x := ⟨_, rfl⟩
  rw [← hr]
  have HR := Lib.hid hr
  have HA := Lib.hid hA
  clear hr hA
  go_enter Tryz.func21, Tryz.ntmps21
  go_wp2_with fail
  go_loopw [5] (fun i wr => ∃ k : Nat, i = .int .i64 k ∧ k ≤ l.length ∧ wr = w ∧ ∀ j, j < k → l[j]? ≠ some x) (fun i _ => l.length - (intOf i).toNat)
  case atStart => exact ⟨0, rfl, Nat.zero_le _, rfl, fun j h => absurd h (by omega)⟩
  case round =>
    obtain ⟨k, rfl, hk, rfl, hall⟩ := hrel
    have HALL := Lib.hid hall
    clear hall
    by_cases hlt : k < l.length
    · obtain ⟨y, hy⟩ : ∃ y, l[k]? = some y := ⟨_, List.getElem?_eq_getElem hlt⟩
      have HY := Lib.hid hy
      obtain ⟨ad, rfl, x0⟩ := HA.out.at_ hy
      clear hy
      by_cases he : y = x
      · subst he
        have HV := Lib.hid (show r = some k from HR.out.trans (findP_some HY.out HALL.out))
        have hb : (y.toList == y.toList) = true := by simp
        go_wp2_with fail
        go_ret
        exact ⟨by rw [HV.out]; rfl, rfl⟩
      · have hb : (y.toList == x.toList) = false := by rw [ba_same]; exact decide_eq_false he
        have HE := Lib.hid he
        clear he
        go_wp2_with fail
        go_roundw
        case rel => exact ⟨k + 1, by go_num, by omega, trivial, fun j hj => by
          rcases Nat.lt_or_ge j k with h | h
          · exact HALL.out j h
          · obtain rfl : j = k := by omega
            rw [HY.out]
            exact fun e => HE.out (Option.some.inj e)⟩
        case measure => simp [intOf]; omega
    · have HV := Lib.hid (show r = none from HR.out.trans (findP_none (fun j hj => HALL.out j (by omega))))
      go_wp2_with fail
      go_ret
      exact ⟨by rw [HV.out]; rfl, rfl⟩
set_option maxHeartbeats 1000000 in
set_option maxRecDepth 100000 in
theorem words_is (g : Bool) (w : World) : Calls Tryz.prog 40 #[.bool g] w fun e w' => ∃ c, e = .returned (.slice (some ⟨w.heap.size, 0, none⟩) (wordsP g).length c) ∧ w' = w.alloc (.cells ((wordsP g).map Value.string).toArray 9) := by
  cases g
  · go_enter Tryz.func40, Tryz.ntmps40
    go_wp2_with fail
    go_ret
    exact ⟨_, rfl, rfl⟩
  · go_enter Tryz.func40, Tryz.ntmps40
    go_wp2_with fail
    go_ret
    exact ⟨_, rfl, rfl⟩
theorem texts_made (w : World) (L : List ByteArray) (t : TypeId) : TextsAt (w.alloc (.cells (L.map Value.string).toArray t)) (some ⟨w.heap.size, 0, none⟩) L := fun _ => ⟨_, rfl, fun i s h => by
  have hadd : (⟨w.heap.size, 0, none⟩ : Addr).add i = ⟨w.heap.size, i, none⟩ := by unfold Addr.add; split <;> simp_all
  rw [hadd, cellH (made_at w _) i]
  simp [h]⟩
end Go.Proofs.YtcfnmjhelhdobaaGreatDoor

namespace Go.Proofs.YtcfnmjhelhdobaaGreatDoor
open Go.RowKit

/-- Words in a row of their own. -/
def WdsRow (w : World) (A : Option Addr) (l : List Wd) : Prop := 0 < l.length → ∃ (g : Nat) (cur : Array Value), A = some ⟨g, 0, none⟩ ∧ w.heap[g]? = some (.cells cur 57 (0, 0)) ∧ cur.toList.take (l.length * 2) = wdCells l
theorem WdsRow.wds {w : World} {A : Option Addr} {l : List Wd} (h : WdsRow w A l) : WdsAt w A l := fun hn => by
  obtain ⟨g, cur, rfl, h1, h2⟩ := h hn
  exact wds_of h1 h2 hn
theorem WdsRow.frame {w w' : World} {A : Option Addr} {l : List Wd} (h : WdsRow w A l) (hf : ∀ (g : Nat) (cur : Array Value), w.heap[g]? = some (.cells cur 57 (0, 0)) → w'.heap[g]? = w.heap[g]?) : WdsRow w' A l := fun hn => by
  obtain ⟨g, cur, e, h1, h2⟩ := h hn
  exact ⟨g, cur, e, (hf g cur h1).trans h1, h2⟩
theorem WdsRow.later {w w' : World} {A : Option Addr} {l : List Wd} (h : WdsRow w A l) (hb : Below w.heap.size w w') : WdsRow w' A l := h.frame (fun g _ hg => hb.block g (Array.getElem?_eq_some_iff.1 hg).1)
theorem row_of_own {W : World} {b : Nat} {v : Value} {n : Nat} {l : List Wd} (h : W.ownsRow b 57 2 v n (wdCells l)) : ∃ A c, v = .slice A l.length c ∧ WdsRow W A l := by
  have hl := h.1
  rw [wdCells_len] at hl
  have hn : n = l.length := by omega
  subst hn
  rcases h.2 with ⟨rfl, e⟩ | ⟨g, cap, cur, rfl, _, hq, _, _, _, ht⟩
  · exact ⟨none, 0, by rw [e], fun h => absurd h (by omega)⟩
  · exact ⟨_, cap, rfl, fun _ => ⟨g, cur, rfl, hq, ht⟩⟩
def NamesOut (w : World) (r : List Wd ⊕ Nat) (e : Ending) (w' : World) : Prop := Below w.heap.size w w' ∧ match r with
  | .inl l => ∃ A c, e = .returned (.tuple #[.slice A l.length c, .int .i64 (-1)]) ∧ WdsRow w' A l
  | .inr p => e = .returned (.tuple #[.slice none 0 0, .int .i64 p])
theorem namesGo_end (s : ByteArray) (p fr i : Nat) (out : List Wd) : namesGo s p 0 fr i out = if nameP (s.extract fr i) then .inl (out ++ [⟨s.extract fr i, p + fr⟩]) else .inr (p + fr) := rfl
theorem namesGo_comma {s : ByteArray} {p f fr i : Nat} {out : List Wd} (h : byL s i = 44) : namesGo s p (f + 1) fr i out = if nameP (s.extract fr i) then namesGo s p f (i + 1) (i + 1) (out ++ [⟨s.extract fr i, p + fr⟩]) else .inr (p + fr) := by rw [namesGo, if_pos h]
theorem namesGo_on {s : ByteArray} {p f fr i : Nat} {out : List Wd} (h : byL s i ≠ 44) : namesGo s p (f + 1) fr i out = namesGo s p f fr (i + 1) out := by rw [namesGo, if_neg h]
/-- From place i on; behind the end: what there is. -/
def namesAt (s : ByteArray) (p fr i : Nat) (out : List Wd) : List Wd ⊕ Nat := if i ≤ s.size then namesGo s p (s.size - i) fr i out else .inl out

theorem namesAt_in {s : ByteArray} {p fr i : Nat} {out : List Wd} (h : i ≤ s.size) : namesAt s p fr i out = namesGo s p (s.size - i) fr i out := if_pos h
theorem namesAt_out {s : ByteArray} {p fr i : Nat} {out : List Wd} (h : ¬ i ≤ s.size) : namesAt s p fr i out = .inl out := if_neg h

set_option maxHeartbeats 1000000 in
set_option maxRecDepth 100000 in
theorem refnames_is (s : ByteArray) (p : Nat) (hs : s.size ≤ 1000000) (hp : p ≤ 1000000) (w : World) : Calls Tryz.prog 63 #[.agg #[.string s, .int .i64 p]] w (NamesOut w (namesP ⟨s, p⟩)) := by
  obtain ⟨r, hr⟩ : ∃ r, r = namesP ⟨s, p⟩ := ⟨_, rfl⟩
  rw [← hr]
  have HR0 := Lib.hid (show r = namesAt s p 0 0 [] from hr.trans (if_pos (Nat.zero_le _)).symm)
  have HBY := Lib.hid (byL_at s)
  clear hr
  obtain ⟨iw, hiw, hw0, hw1, hw2⟩ := info_all info_rwd
  have HZ0 := Lib.hid (made_at w (.cells #[.string s, .int .i64 p] 57))
  have HB0 := Lib.hid ((Below.refl w.heap.size w).alloc (Nat.le_refl _) (.cells #[.string s, .int .i64 p] 57))
  go_enter Tryz.func63, Tryz.ntmps63
  go_wp2_with fail
  go_loopw [4, 5, 6] (fun v f i wr => ∃ (k fr : Nat) (out : List Wd), i = .int .i64 k ∧ f = .int .i64 fr ∧ fr ≤ k ∧ k ≤ s.size + 1 ∧ r = namesAt s p fr k out ∧ wr.heap[w.heap.size]? = some (.cells #[.string s, .int .i64 p] 57 (0, 0)) ∧
    wr.ownsRow (w.heap.size + 1) 57 2 v out.length (wdCells out) ∧ Below w.heap.size w wr ∧ out.length ≤ k) (fun _ _ i _ => s.size + 1 - (intOf i).toNat)
  case atStart => exact ⟨0, 0, [], rfl, rfl, Nat.le_refl _, by omega, HR0.out, HZ0.out, World.ownsRow_nil _ _ _ _, HB0.out, Nat.le_refl _⟩
  case round =>
    obtain ⟨k, fr, out, rfl, rfl, hfk, hk, hrr, hz, hown, hb, hol⟩ := hrel
    have HRR := Lib.hid hrr
    have HZ := Lib.hid hz
    have HOWN := Lib.hid hown
    have HB := Lib.hid hb
    have HOL := Lib.hid hol
    obtain ⟨A4, c4, rfl⟩ := own_slice hown
    clear hrr hz hown hb hol HR0 HZ0 HB0
    have z0 := cellH HZ.out 0
    have z1 := cellH HZ.out 1
    simp at z0 z1
    by_cases hend : k = s.size + 1
    · have HV := Lib.hid (show r = .inl out from HRR.out.trans (namesAt_out (by omega)))
      obtain ⟨A, c, e, hW⟩ := row_of_own HOWN.out
      injection e with e1 _ e3
      subst e1 e3
      go_wp2_with fail
      refine bodyPost_ret (v := .tuple #[.slice A4 out.length c4, .int .i64 (-1)]) (by simp [results, Tryz.results63, go_sem]) rfl ⟨HB.out, ?_⟩
      rw [HV.out]
      exact ⟨A4, c4, rfl, hW⟩
    · have hk2 : k ≤ s.size := by omega
      go_upto_region 6 with fail
      go_cut [26] (fun t wx => wx = wr ∧ ∃ b : Bool, t = .bool b ∧ ((b = true ∧ k < s.size ∧ byL s k ≠ 44) ∨ (b = false ∧ (k = s.size ∨ k < s.size ∧ byL s k = 44))))
      case first =>
        by_cases hlt : k < s.size
        · have hB : ∀ h : k < s.size, ((s[k]'h).toNat : Int) = byL s k := HBY.out k
          by_cases h44 : byL s k = 44
          · have hb : (byL s k != 44) = false := by rw [h44]; rfl
            go_wp2_with fail
            go_meet
            exact ⟨rfl, false, rfl, .inr ⟨rfl, .inr ⟨hlt, h44⟩⟩⟩
          · have hb : (byL s k != 44) = true := by rw [bne_iff_ne]; exact h44
            go_wp2_with fail
            go_meet
            exact ⟨rfl, true, rfl, .inl ⟨rfl, hlt, h44⟩⟩
        · go_wp2_with fail
          go_meet
          exact ⟨rfl, false, rfl, .inr ⟨rfl, .inl (by omega)⟩⟩
      case rest =>
      obtain ⟨rfl, b, rfl, hb⟩ := hcut
      rcases hb with ⟨rfl, hlt, h44⟩ | ⟨rfl, hb⟩
      · have HV := Lib.hid (show r = namesAt s p fr (k + 1) out by
          rw [HRR.out, namesAt_in hk2, namesAt_in hlt, show s.size - k = (s.size - (k + 1)) + 1 by omega, namesGo_on h44])
        clear h44
        go_wp2_with fail
        go_roundw
        case rel => exact ⟨k + 1, fr, out, by go_num, rfl, by omega, by omega, HV.out, HZ.out, HOWN.out, HB.out, Nat.le_succ_of_le HOL.out⟩
        case measure => simp [intOf]; omega
      · have HV := Lib.hid (show r = if nameP (s.extract fr k) then namesAt s p (k + 1) (k + 1) (out ++ [⟨s.extract fr k, p + fr⟩]) else .inr (p + fr) by
          rw [HRR.out, namesAt_in hk2]
          rcases hb with rfl | ⟨hlt, h44⟩
          · rw [Nat.sub_self, namesGo_end, namesAt_out (by omega)]
          · rw [show s.size - k = (s.size - (k + 1)) + 1 by omega, namesGo_comma h44, namesAt_in hlt])
        clear HRR hb
        have ab1 : (fr : Int) ≤ (k : Int) := by omega
        have ab2 : (k : Int) ≤ (s.size : Int) := by omega
        have ab3 : (0 : Int) ≤ (fr : Int) := by omega
        have ab4 : (0 : Int) ≤ (k : Int) := by omega
        have RN := Lib.hid (fun w : World => refname_is (s.extract fr k) (by rw [ByteArray.size_extract]; omega) w)
        generalize nameP (s.extract fr k) = nb at RN HV
        have l0 := (Below.refl wc.heap.size wc).alloc (Nat.le_refl _) (.cells #[.string ⟨#[]⟩, .int .i64 0] 57)
        have y0 := cellH (later_at l0 HZ.out) 0
        have y1 := cellH (later_at l0 HZ.out) 1
        simp at y0 y1
        clear l0
        go_upto_region 7 with fail
        go_region
        go_wp2_with fail
        refine (RN.out _).mono ?_
        rintro e w1 ⟨rfl, rfl⟩
        have l1 := ((Below.refl wc.heap.size wc).alloc (Nat.le_refl _) (.cells #[.string (s.extract fr k), .int .i64 ((p : Int) + (fr : Int))] 57)).drew
        have HP := Lib.hid (made_at wc (.cells #[.string (s.extract fr k), .int .i64 ((p : Int) + (fr : Int))] 57))
        have HB1 := Lib.hid (below_step HB.out l1)
        have HZ1 := Lib.hid (later_at l1 HZ.out)
        have HO1 := Lib.hid (own_agree HOWN.out (fun q _ hq => l1.block q hq))
        generalize hW : (wc.alloc (.cells #[.string (s.extract fr k), .int .i64 ((p : Int) + (fr : Int))] 57)).drew = W1 at *
        have HP1 := Lib.hid (show W1.heap[wc.heap.size]? = some (.cells #[.string (s.extract fr k), .int .i64 ((p : Int) + (fr : Int))] 57 (0, 0)) by rw [← hW]; exact HP.out)
        have x0 := cellH HP1.out 0
        have x1 := cellH HP1.out 1
        simp at x0 x1
        clear y0 y1 z0 z1 l1 HP hW RN HZ HOWN HB
        cases nb with
        | false =>
          go_upto_region 9 with fail
          go_region
          go_wp2_with fail
          refine bodyPost_ret (v := .tuple #[.slice none 0 0, .int .i64 ((p : Int) + (fr : Int))]) (by simp [results, Tryz.results63, go_sem]) rfl ⟨HB1.out.drew, ?_⟩
          rw [HV.out]
          exact congrArg Ending.returned (by simp)
        | true =>
          have l2 := (Below.refl W1.heap.size W1).alloc (Nat.le_refl _) (.cells #[.string (s.extract fr k), .int .i64 ((p : Int) + (fr : Int))] 57)
          have HB2 := Lib.hid (below_step HB1.out l2)
          have HZ2 := Lib.hid (later_at l2 HZ1.out)
          have HO2 := Lib.hid (own_agree HO1.out (fun q _ hq => l2.block q hq))
          have HNW := Lib.hid (cells_new W1 [.string (s.extract fr k), .int .i64 ((p : Int) + (fr : Int))] 57)
          have hsz : w.heap.size + 1 ≤ (W1.alloc (.cells #[.string (s.extract fr k), .int .i64 ((p : Int) + (fr : Int))] 57)).heap.size := by
            have := (Array.getElem?_eq_some_iff.1 HZ1.out).1
            simp
            omega
          clear l2
          go_wp2_with (at_builtin; refine wpList_append_own _ rfl (.tmp 43) (.tmp 45) 58 rfl (w.heap.size + 1) 57 iw _ 2 24 Tryz.underlying58 hiw hw0 hw1 hw2 rfl (by omega) (.slice A4 out.length c4) out.length (wdCells out) rfl HO2.out ⟨W1.heap.size, 0, none⟩ 1 1 [.string (s.extract fr k), .int .i64 ((p : Int) + (fr : Int))] rfl rfl HNW.out (by simp [Value.oneCell']) (by have := HOL.out; unfold maxLen; omega) (by have := HOL.out; omega) hsz ?_; intro v2 w3 hown2 hg2 _; have HO3 := Lib.hid hown2; have HB3 := Lib.hid (HB2.out.grown hg2 HB2.out.size (fun g e => by have := (own_tag HO2.out e).1; omega)); have HZ3 := Lib.hid ((hg2.block w.heap.size (by omega) (fun e => by have := (own_tag HO2.out e.symm).1; omega)).trans HZ2.out); clear hown2 hg2)
          go_roundw
          case rel =>
            have h : r = namesAt s p (k + 1) (k + 1) (out ++ [⟨s.extract fr k, p + fr⟩]) := HV.out
            refine ⟨k + 1, k + 1, _, by go_num, by go_num, Nat.le_refl _, by omega, h, HZ3.out, ?_, HB3.out, by have := HOL.out; simp; omega⟩
            rw [wdCells_add, wdCells_one, List.length_append]
            have h3 := HO3.out
            simp only [wdC]
            simpa using h3
          case measure => simp [intOf]; omega
end Go.Proofs.YtcfnmjhelhdobaaGreatDoor

/-
  Tries in plain words, two of them held against each other, and what layer 11's laws ask of the program's lease (a bundle). No conditions.
-/
import Derived.Test.YthmjeibanofliaaDoorLsB
namespace Go.Proofs.YthmjeibanofliaaDoor
open Go.RowKit

structure TrP where
  st : Int
  sn : Int
  ms : Int
  wk : Int
  ls : Int
  un : Int
abbrev noTr : TrP := ⟨0, 0, 0, 0, 0, 0⟩
abbrev tryA (t : TrP) : Array Value := #[.int .i64 t.st, .int .i64 t.sn, .int .i64 t.ms, .int .i64 t.wk, .int .i64 t.ls, .int .i64 t.un]
abbrev tryV (t : TrP) : Value := .agg #[.int .i64 t.st, .int .i64 t.sn, .int .i64 t.ms, .int .i64 t.wk, .int .i64 t.ls, .int .i64 t.un]
/-- Are six numbers six others? -/
def eq6 (a0 a1 a2 a3 a4 a5 b0 b1 b2 b3 b4 b5 : Int) : Bool := (a0 == b0) && (a1 == b1) && (a2 == b2) && (a3 == b3) && (a4 == b4) && (a5 == b5)
abbrev sameTr (t u : TrP) : Bool := eq6 t.st t.sn t.ms t.wk t.ls t.un u.st u.sn u.ms u.wk u.ls u.un
theorem sameTr_iff {t u : TrP} : sameTr t u = true ↔ t = u := by
  obtain ⟨a0, a1, a2, a3, a4, a5⟩ := t
  obtain ⟨b0, b1, b2, b3, b4, b5⟩ := u
  simp [sameTr, eq6, and_assoc]
theorem sameTr_self (t : TrP) : sameTr t t = true := sameTr_iff.2 rfl
theorem sameTr_no {t u : TrP} (h : t ≠ u) : sameTr t u = false := by
  cases e : sameTr t u with
  | false => rfl
  | true => exact absurd (sameTr_iff.1 e) h
def openP (t : TrP) (now : Int) : TrP := if t.st = 0 then ⟨1, now, t.ms, t.wk, t.ls, t.un⟩ else t
def missP (t : TrP) (at_ retry : Int) : TrP := if t.st ≠ 2 then t else if retry < t.ms + 1 then ⟨4, 0, t.ms + 1, 0, 0, 0⟩ else ⟨1, at_ + (t.ms + 1), t.ms + 1, 0, 0, 0⟩
def settleP (t : TrP) (now retry : Int) : TrP := if t.st = 2 ∧ t.un ≤ now then missP t t.un retry else t
/-- Take: what is had, and what is told. -/
def takeP (t : TrP) (now wk ls time : Int) : TrP × Int := if t.st ≠ 1 ∨ now < t.sn then (noTr, 12) else (⟨2, 0, t.ms, wk, ls, now + time⟩, 0)
def holdsP (t : TrP) (now wk ls : Int) : Bool := (t.st == 2) && (t.wk == wk) && (t.ls == ls) && decide (now < t.un)
def beatP (t : TrP) (now time : Int) : TrP := if t.st = 2 then ⟨t.st, t.sn, t.ms, t.wk, t.ls, now + time⟩ else t
def doneP (t : TrP) : TrP := if t.st = 1 ∨ t.st = 2 then ⟨3, 0, t.ms, 0, 0, 0⟩ else t
def mostB (n : Int) : Bool := decide (0 ≤ n) && decide (n ≤ 1000000)
/-- May it be? -/
def rightT (t : TrP) : Bool := mostB t.sn && mostB t.wk && mostB t.ls && mostB t.un && (decide (0 ≤ t.st) && decide (t.st ≤ 4) && (decide (0 ≤ t.ms) && decide (t.ms ≤ 6))) && ((t.st == 2) || ((t.wk == 0) && (t.ls == 0) && (t.un == 0))) && ((t.st == 1) || (t.sn == 0))
/-- From -2^40 to 2^40. -/
def smI (n : Int) : Prop := -1099511627776 ≤ n ∧ n ≤ 1099511627776
structure SmallT (t : TrP) : Prop where
  st : smI t.st
  sn : smI t.sn
  ms : smI t.ms
  wk : smI t.wk
  ls : smI t.ls
  un : smI t.un
theorem settle_later {t : TrP} {a b : Int} (r : Int) (h : a ≤ b) : settleP (settleP t a r) b r = settleP t b r := by
  by_cases h1 : t.st = 2 ∧ t.un ≤ a
  · have e1 : settleP t a r = missP t t.un r := by unfold settleP; rw [if_pos h1]
    have e2 : settleP t b r = missP t t.un r := by unfold settleP; rw [if_pos ⟨h1.1, by omega⟩]
    rw [e1, e2]
    have h2 : (missP t t.un r).st ≠ 2 := by
      unfold missP
      rw [if_neg (by simp [h1.1])]
      split <;> simp
    unfold settleP
    rw [if_neg (fun h => h2 h.1)]
  · have e1 : settleP t a r = t := by unfold settleP; rw [if_neg h1]
    rw [e1]
theorem settle_twice (t : TrP) (a r : Int) : settleP (settleP t a r) a r = settleP t a r := settle_later r (Int.le_refl a)
theorem settle_held {t : TrP} {a : Int} (r : Int) {x y : Int} (h : holdsP t a x y = true) : settleP t a r = t := by
  unfold holdsP at h
  simp only [Bool.and_eq_true, beq_iff_eq, decide_eq_true_eq] at h
  unfold settleP
  rw [if_neg (by omega)]
theorem settle_ms (t : TrP) (a r : Int) : (settleP t a r).ms = t.ms ∨ ((settleP t a r).ms = t.ms + 1 ∧ (settleP t a r).st ≠ 2) := by
  unfold settleP
  split
  · rename_i h
    right
    unfold missP
    rw [if_neg (by simp [h.1])]
    split <;> simp
  · exact .inl rfl
theorem rightT_small {t : TrP} (h : rightT t = true) : SmallT t := by
  unfold rightT mostB at h
  simp only [Bool.and_eq_true, decide_eq_true_eq] at h
  obtain ⟨⟨⟨⟨⟨⟨h1, h2⟩, h3⟩, h4⟩, h5, h6⟩, _⟩, _⟩ := h
  constructor <;> unfold smI <;> omega
theorem settle_small {t : TrP} {a r : Int} (h : rightT t = true) : SmallT (settleP t a r) := by
  have hs := rightT_small h
  unfold rightT mostB at h
  simp only [Bool.and_eq_true, decide_eq_true_eq] at h
  obtain ⟨⟨⟨⟨⟨⟨h1, h2⟩, h3⟩, h4⟩, h5, h6⟩, _⟩, _⟩ := h
  unfold settleP
  split
  · unfold missP
    split
    · exact hs
    · split
      · constructor <;> unfold smI <;> simp only [] <;> omega
      · constructor <;> unfold smI <;> simp only [] <;> omega
  · exact hs
end Go.Proofs.YthmjeibanofliaaDoor

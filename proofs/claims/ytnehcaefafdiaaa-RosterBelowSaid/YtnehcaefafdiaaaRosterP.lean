/-
  Plain words of rosters: the first place at which a test says yes. No program is named here.
-/
import Derived.Test.YtnehcaefafdiaaaLabelC
namespace Go.Proofs.Ytnehcaefafdiaaa
open Go.RowKit

/-- The first place below n at which p says yes; -1: there is none. -/
def firstN (p : Nat → Bool) : Nat → Int
  | 0 => -1
  | n + 1 => if firstN p n = -1 then (if p n then (n : Int) else -1) else firstN p n

theorem firstN_none {p : Nat → Bool} : ∀ {n : Nat}, (∀ i, i < n → p i = false) → firstN p n = -1
  | 0, _ => rfl
  | n + 1, h => by
    have ih := firstN_none (n := n) (fun i hi => h i (by omega))
    simp [firstN, ih, h n (by omega)]
theorem firstN_hit {p : Nat → Bool} {k : Nat} (hk : p k = true) (h : ∀ i, i < k → p i = false) : ∀ {n : Nat}, k < n → firstN p n = (k : Int)
  | 0, hn => absurd hn (by omega)
  | n + 1, hn => by
    by_cases e : k = n
    · subst e
      simp [firstN, firstN_none h, hk]
    · have ih := firstN_hit hk h (n := n) (by omega)
      have : (k : Int) ≠ -1 := by omega
      simp [firstN, ih, this]
theorem firstN_cases (p : Nat → Bool) : ∀ n : Nat, (firstN p n = -1 ∧ ∀ i, i < n → p i = false) ∨ ∃ k : Nat, k < n ∧ firstN p n = (k : Int) ∧ p k = true ∧ ∀ i, i < k → p i = false
  | 0 => .inl ⟨rfl, fun _ h => absurd h (by omega)⟩
  | n + 1 => by
    rcases firstN_cases p n with ⟨e, h⟩ | ⟨k, hk, e, hp, h⟩
    · cases hn : p n
      · refine .inl ⟨by simp [firstN, e, hn], fun i hi => ?_⟩
        by_cases en : i = n
        · rw [en]; exact hn
        · exact h i (by omega)
      · exact .inr ⟨n, by omega, by simp [firstN, e, hn], hn, h⟩
    · have : (k : Int) ≠ -1 := by omega
      exact .inr ⟨k, by omega, by simp [firstN, e, this], hp, h⟩
theorem firstN_range (p : Nat → Bool) (n : Nat) : -1 ≤ firstN p n ∧ firstN p n < n := by
  rcases firstN_cases p n with ⟨e, _⟩ | ⟨k, hk, e, _⟩ <;> omega

/-- Is there one below n? -/
def anyN (p : Nat → Bool) (n : Nat) : Bool := decide (0 ≤ firstN p n)
theorem anyN_no {p : Nat → Bool} {n : Nat} (h : ∀ i, i < n → p i = false) : anyN p n = false := by simp [anyN, firstN_none h]
theorem anyN_yes {p : Nat → Bool} {n k : Nat} (hk : k < n) (h : p k = true) : anyN p n = true := by
  rcases firstN_cases p n with ⟨_, g⟩ | ⟨j, _, e, _⟩
  · rw [g k hk] at h; cases h
  · simp [anyN, e]
theorem anyN_false {p : Nat → Bool} {n : Nat} (h : anyN p n = false) {i : Nat} (hi : i < n) : p i = false := by
  cases e : p i
  · rfl
  · rw [anyN_yes hi e] at h; cases h

theorem below_step {w a b : World} (hB : Below w.heap.size w a) (hb : Below a.heap.size a b) : Below w.heap.size w b := hB.trans (hb.mono hB.size)
theorem cell_alloc {w : World} {a : Addr} {v : Value} {o : Obj} (h : w.cell? a = some v) : (w.alloc o).cell? a = some v := by
  rw [World.cell?_alloc_lt _ _ _ (World.block_lt_of_cell? _ _ h)]; exact h

/-- n labels stand at A. -/
def LabsAt (w : World) (A : Option Addr) (n : Nat) (lv st : Nat → Int) : Prop :=
  0 < n → ∃ ad, A = some ad ∧ ∀ i, i < n → w.cell? (ad.add (i * 2)) = some (.int .i64 (lv i)) ∧ w.cell? ⟨(ad.add (i * 2)).block, (ad.add (i * 2)).off + 1, none⟩ = some (.int .u16 (st i))
theorem LabsAt.later {w w' : World} {A : Option Addr} {n : Nat} {lv st : Nat → Int} (h : LabsAt w A n lv st) (hb : Below w.heap.size w w') : LabsAt w' A n lv st := fun hn => by
  obtain ⟨ad, e, hc⟩ := h hn
  exact ⟨ad, e, fun i hi => ⟨cell_later hb (hc i hi).1, cell_later hb (hc i hi).2⟩⟩
theorem LabsAt.alloc {w : World} {A : Option Addr} {n : Nat} {lv st : Nat → Int} (h : LabsAt w A n lv st) (o : Obj) : LabsAt (w.alloc o) A n lv st := fun hn => by
  obtain ⟨ad, e, hc⟩ := h hn
  exact ⟨ad, e, fun i hi => ⟨cell_alloc (hc i hi).1, cell_alloc (hc i hi).2⟩⟩
theorem LabsAt.at_ {w : World} {A : Option Addr} {n : Nat} {lv st : Nat → Int} (h : LabsAt w A n lv st) {i : Nat} (hi : i < n) :
    ∃ ad, A = some ad ∧ w.cell? (ad.add (i * 2)) = some (.int .i64 (lv i)) ∧ w.cell? ⟨(ad.add (i * 2)).block, (ad.add (i * 2)).off + 1, none⟩ = some (.int .u16 (st i)) := by
  obtain ⟨ad, e, hc⟩ := h (by omega)
  exact ⟨ad, e, hc i hi⟩

/-- m principals stand at A: their partitions and their labels. -/
def PepsAt (w : World) (A : Option Addr) (m : Nat) (pt al au : Nat → Int) : Prop :=
  0 < m → ∃ ad, A = some ad ∧ ∀ i, i < m → w.cell? (ad.add (i * 3)) = some (.int .i64 (pt i)) ∧ w.cell? ⟨(ad.add (i * 3)).block, (ad.add (i * 3)).off + 1, none⟩ = some (.int .i64 (al i)) ∧ w.cell? ⟨(ad.add (i * 3)).block, (ad.add (i * 3)).off + 1 + 1, none⟩ = some (.int .u16 (au i))
theorem PepsAt.later {w w' : World} {A : Option Addr} {n : Nat} {pt al au : Nat → Int} (h : PepsAt w A n pt al au) (hb : Below w.heap.size w w') : PepsAt w' A n pt al au := fun hn => by
  obtain ⟨ad, e, hc⟩ := h hn
  exact ⟨ad, e, fun i hi => ⟨cell_later hb (hc i hi).1, cell_later hb (hc i hi).2.1, cell_later hb (hc i hi).2.2⟩⟩
theorem PepsAt.alloc {w : World} {A : Option Addr} {n : Nat} {pt al au : Nat → Int} (h : PepsAt w A n pt al au) (o : Obj) : PepsAt (w.alloc o) A n pt al au := fun hn => by
  obtain ⟨ad, e, hc⟩ := h hn
  exact ⟨ad, e, fun i hi => ⟨cell_alloc (hc i hi).1, cell_alloc (hc i hi).2.1, cell_alloc (hc i hi).2.2⟩⟩
theorem PepsAt.at_ {w : World} {A : Option Addr} {n : Nat} {pt al au : Nat → Int} (h : PepsAt w A n pt al au) {i : Nat} (hi : i < n) :
    ∃ ad, A = some ad ∧ w.cell? (ad.add (i * 3)) = some (.int .i64 (pt i)) ∧ w.cell? ⟨(ad.add (i * 3)).block, (ad.add (i * 3)).off + 1, none⟩ = some (.int .i64 (al i)) ∧ w.cell? ⟨(ad.add (i * 3)).block, (ad.add (i * 3)).off + 1 + 1, none⟩ = some (.int .u16 (au i)) := by
  obtain ⟨ad, e, hc⟩ := h (by omega)
  exact ⟨ad, e, hc i hi⟩

end Go.Proofs.Ytnehcaefafdiaaa

/-
  Votes in plain words: numbers that rise, each once; one more; in whatever order. No program is named here.
-/
import Derived.Test.YthmjeibanofliaaDoorLsB
namespace Go.Proofs.YthmjeibanofliaaDoor
open Go.RowKit

/-- Numbers from 0 to 11, rising. -/
def RisL (l : List Int) : Prop := l.Pairwise (· < ·) ∧ ∀ x ∈ l, 0 ≤ x ∧ x < 12
/-- One more, ahead of the first one that is greater. -/
def insL : List Int → Int → List Int
  | [], x => [x]
  | y :: l, x => if x < y then x :: y :: l else y :: insL l x
def okWho (x : Int) : Bool := decide (0 ≤ x) && decide (x < 12)
/-- Who is for it behind a vote. -/
def yesV (yes : List Int) (who : Int) (is : Bool) : List Int := if is && okWho who && !yes.contains who then insL yes who else yes
def noV (no is : Bool) : Bool := no || !is
def mayV (yes : List Int) (no : Bool) (need : Int) : Bool := !no && decide (need ≤ (yes.length : Int))
theorem insL_mem {x z : Int} : ∀ {l : List Int}, z ∈ insL l x ↔ z = x ∨ z ∈ l
  | [] => by simp [insL]
  | y :: l => by
    unfold insL
    split
    · simp
    · rw [List.mem_cons, insL_mem (l := l), List.mem_cons]
      constructor
      · rintro (h | h | h)
        · exact .inr (.inl h)
        · exact .inl h
        · exact .inr (.inr h)
      · rintro (h | h | h)
        · exact .inr (.inl h)
        · exact .inl h
        · exact .inr (.inr h)
theorem insL_rise {x : Int} : ∀ {l : List Int}, l.Pairwise (· < ·) → x ∉ l → (insL l x).Pairwise (· < ·)
  | [], _, _ => by simp [insL]
  | y :: l, h, hx => by
    have h1 := List.pairwise_cons.1 h
    unfold insL
    split
    · rename_i hlt
      refine List.pairwise_cons.2 ⟨fun z hz => ?_, h⟩
      rcases List.mem_cons.1 hz with rfl | hz
      · exact hlt
      · exact Int.lt_trans hlt (h1.1 z hz)
    · rename_i hlt
      have hne : x ≠ y := fun e => hx (by rw [e]; exact List.mem_cons_self ..)
      refine List.pairwise_cons.2 ⟨fun z hz => ?_, insL_rise h1.2 (fun hm => hx (List.mem_cons_of_mem _ hm))⟩
      rcases insL_mem.1 hz with rfl | hz
      · omega
      · exact h1.1 z hz
theorem insL_len {x : Int} : ∀ {l : List Int}, (insL l x).length = l.length + 1
  | [] => rfl
  | y :: l => by
    unfold insL
    split
    · simp
    · simp [insL_len (l := l)]
theorem rise_len : ∀ {l : List Int} {a : Int}, l.Pairwise (· < ·) → (∀ x ∈ l, a ≤ x ∧ x < 12) → a ≤ 12 → (l.length : Int) ≤ 12 - a
  | [], a, _, _, ha => by simp; omega
  | y :: l, a, h, hx, ha => by
    have h1 := List.pairwise_cons.1 h
    have h2 := hx y (List.mem_cons_self ..)
    have h3 := rise_len (l := l) (a := y + 1) h1.2 (fun x hm => ⟨by have := h1.1 x hm; omega, (hx x (List.mem_cons_of_mem _ hm)).2⟩) (by omega)
    rw [List.length_cons]
    omega
theorem RisL.len {l : List Int} (h : RisL l) : l.length ≤ 12 := by
  have := rise_len (a := 0) h.1 h.2 (by omega)
  omega
theorem RisL.nil : RisL [] := ⟨List.Pairwise.nil, fun _ h => absurd h List.not_mem_nil⟩
theorem yesV_mem {yes : List Int} {who z : Int} {is : Bool} : z ∈ yesV yes who is ↔ z ∈ yes ∨ (is = true ∧ okWho who = true ∧ z = who) := by
  unfold yesV
  by_cases h : (is && okWho who && !yes.contains who) = true
  · rw [if_pos h, insL_mem]
    simp only [Bool.and_eq_true, Bool.not_eq_true'] at h
    constructor
    · rintro (h1 | h1)
      · exact .inr ⟨h.1.1, h.1.2, h1⟩
      · exact .inl h1
    · rintro (h1 | h1)
      · exact .inr h1
      · exact .inl h1.2.2
  · rw [if_neg h]
    constructor
    · exact .inl
    · rintro (h1 | ⟨h1, h2, rfl⟩)
      · exact h1
      · rw [h1, h2] at h
        simpa using h
theorem RisL.vote {yes : List Int} (h : RisL yes) (who : Int) (is : Bool) : RisL (yesV yes who is) := by
  refine ⟨?_, fun x hx => ?_⟩
  · unfold yesV
    split
    · rename_i h1
      simp only [Bool.and_eq_true, Bool.not_eq_true'] at h1
      refine insL_rise h.1 fun hm => ?_
      rw [← List.contains_iff_mem, h1.2] at hm
      cases hm
    · exact h.1
  · rcases yesV_mem.1 hx with h1 | ⟨_, h1, rfl⟩
    · exact h.2 x h1
    · unfold okWho at h1
      simp at h1
      exact h1
theorem rise_ext : ∀ {l m : List Int}, l.Pairwise (· < ·) → m.Pairwise (· < ·) → (∀ x, x ∈ l ↔ x ∈ m) → l = m
  | [], [], _, _, _ => rfl
  | [], y :: m, _, _, h => absurd ((h y).2 (List.mem_cons_self ..)) List.not_mem_nil
  | x :: l, [], _, _, h => absurd ((h x).1 (List.mem_cons_self ..)) List.not_mem_nil
  | x :: l, y :: m, hl, hm, h => by
    have h1 := List.pairwise_cons.1 hl
    have h2 := List.pairwise_cons.1 hm
    have e : x = y := by
      rcases List.mem_cons.1 ((h x).1 (List.mem_cons_self ..)) with e | hx
      · exact e
      · rcases List.mem_cons.1 ((h y).2 (List.mem_cons_self ..)) with e | hy
        · exact e.symm
        · have := h1.1 y hy
          have := h2.1 x hx
          omega
    subst e
    congr 1
    refine rise_ext h1.2 h2.2 fun z => ⟨fun hz => ?_, fun hz => ?_⟩
    · rcases List.mem_cons.1 ((h z).1 (List.mem_cons_of_mem _ hz)) with e | h3
      · have := h1.1 z hz
        omega
      · exact h3
    · rcases List.mem_cons.1 ((h z).2 (List.mem_cons_of_mem _ hz)) with e | h3
      · have := h2.1 z hz
        omega
      · exact h3
/-- Votes for it, one after the other. -/
def foldY (l : List Int) : List Int := l.foldl (fun y x => yesV y x true) []
theorem foldY_next (l : List Int) (x : Int) : foldY (l ++ [x]) = yesV (foldY l) x true := by simp [foldY]
theorem foldY_rise (l : List Int) : RisL (foldY l) := by
  unfold foldY
  suffices h : ∀ (l a : List Int), RisL a → RisL (l.foldl (fun y x => yesV y x true) a) from h l [] RisL.nil
  intro l
  induction l with
  | nil => exact fun a h => h
  | cons x l ih => exact fun a h => ih _ (h.vote x true)
theorem foldY_mem (l : List Int) (z : Int) : z ∈ foldY l ↔ z ∈ l ∧ okWho z = true := by
  unfold foldY
  suffices h : ∀ (l a : List Int), z ∈ l.foldl (fun y x => yesV y x true) a ↔ z ∈ a ∨ (z ∈ l ∧ okWho z = true) by
    rw [h]
    simp
  intro l
  induction l with
  | nil => intro a; simp
  | cons x l ih =>
    intro a
    rw [List.foldl_cons, ih, yesV_mem, List.mem_cons]
    constructor
    · rintro ((h | ⟨_, h, rfl⟩) | h)
      · exact .inl h
      · exact .inr ⟨.inl rfl, h⟩
      · exact .inr ⟨.inr h.1, h.2⟩
    · rintro (h | ⟨rfl | h, h2⟩)
      · exact .inl (.inl h)
      · exact .inl (.inr ⟨rfl, h2, rfl⟩)
      · exact .inr ⟨h, h2⟩
theorem foldY_turn (l m : List Int) (h : ∀ x, x ∈ l ↔ x ∈ m) : foldY l = foldY m :=
  rise_ext (foldY_rise l).1 (foldY_rise m).1 fun z => by rw [foldY_mem, foldY_mem, h z]
/-- May they be? -/
def rightV (l : List Int) : Bool := decide (l.Pairwise (· < ·)) && l.all okWho
theorem rightV_iff {l : List Int} : rightV l = true ↔ RisL l := by
  unfold rightV RisL okWho
  simp
end Go.Proofs.YthmjeibanofliaaDoor

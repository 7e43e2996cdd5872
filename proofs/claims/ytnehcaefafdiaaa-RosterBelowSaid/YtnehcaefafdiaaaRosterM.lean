/-
  New lists of labels, principals and numbers; the rosters of the laws' first line. No conditions.
-/
import Derived.Test.YtnehcaefafdiaaaRosterL
import Derived.WalkKit
namespace Go.Proofs.Ytnehcaefafdiaaa
open Go.RowKit

theorem labs_new {w : World} {cs : Array Value} {t : TypeId} {n : Nat} {lv st : Nat → Int} (h : cs.toList = labCells lv st n) : LabsAt (w.alloc (.cells cs t)) (some ⟨w.heap.size, 0, none⟩) n lv st :=
  labs_of_cells fun j u hu => by
    rw [← h] at hu
    have e : (⟨w.heap.size, 0, none⟩ : Addr).add j = ⟨w.heap.size, j, none⟩ := by unfold Addr.add; split <;> simp_all
    rw [e]
    simp [go_sem]
    simpa using hu
theorem peps_new {w : World} {cs : Array Value} {t : TypeId} {n : Nat} {pt al au : Nat → Int} (h : cs.toList = pepCells pt al au n) : PepsAt (w.alloc (.cells cs t)) (some ⟨w.heap.size, 0, none⟩) n pt al au :=
  peps_of_cells fun j u hu => by
    rw [← h] at hu
    have e : (⟨w.heap.size, 0, none⟩ : Addr).add j = ⟨w.heap.size, j, none⟩ := by unfold Addr.add; split <;> simp_all
    rw [e]
    simp [go_sem]
    simpa using hu
theorem ints_new {w : World} {cs : Array Value} {t : TypeId} {zs : List Int} (h : cs.toList = zs.map (Value.int .i64)) : IntsAt (w.alloc (.cells cs t)) (some ⟨w.heap.size, 0, none⟩) zs := fun _ =>
  ⟨_, rfl, fun i hi => by
    have e : (⟨w.heap.size, 0, none⟩ : Addr).add i = ⟨w.heap.size, i, none⟩ := by unfold Addr.add; split <;> simp_all
    rw [e]
    have hu : cs.toList[i]? = some (.int .i64 (zs.getD i 0)) := by
      rw [h]; simp [List.getElem?_map, List.getElem?_eq_getElem hi]
    simp [go_sem]
    simpa using hu⟩

def awLv (i : Nat) : Int := [0, 3].getD i 0
def awSt (i : Nat) : Int := [0, 1].getD i 0
def awPt (i : Nat) : Int := [1, 0, 1].getD i 0
def awAl (i : Nat) : Int := [3, 0, 0].getD i 0
def awAu (i : Nat) : Int := [1, 0, 0].getD i 0
def zeroF (_ : Nat) : Int := 0
def oneF (_ : Nat) : Int := 1

theorem aw_f1 : faultV 2 3 awLv awSt awPt awAl = 0 := by decide
theorem aw_f2 : faultV 0 0 zeroF zeroF zeroF zeroF = 1 := by decide
theorem aw_f3 : faultV 2 0 zeroF zeroF zeroF zeroF = 7 := by decide
theorem aw_f4 : faultV 1 1 zeroF zeroF oneF zeroF = 2 := by decide

theorem aw_new {w : World} {A B : Option Addr} {c d : Nat} (hl : LabsAt w A 2 awLv awSt) (hp : PepsAt w B 3 awPt awAl awAu) (hc : 2 ≤ c) (ha : A ≠ none) (hb : B ≠ none) :
    Calls Try.prog 8 #[.slice A 2 c, .slice B 3 d] w fun e w' => (∃ R, e = .returned (.tuple #[.pointer (some ⟨R, 0, none⟩), .int .i64 0]) ∧ RosAt w' R 2 3 awLv awSt awPt awAl awAu) ∧ Below w.heap.size w w' :=
  new_yes hl hp hc (fun h => absurd h ha) (fun h => absurd h hb) aw_f1
theorem aw_new2 {w : World} :
    Calls Try.prog 8 #[.slice none 0 0, .slice none 0 0] w fun e w' => e = .returned (.tuple #[.pointer none, .int .i64 1]) ∧ Below w.heap.size w w' := by
  have h := new_no (w := w) (A := none) (B := none) (n := 0) (m := 0) (c := 0) (d := 0) (lv := zeroF) (st := zeroF) (pt := zeroF) (al := zeroF) (au := zeroF) (fun h => absurd h (by omega)) (fun h => absurd h (by omega)) (Nat.le_refl _) (by rw [aw_f2]; decide)
  rw [aw_f2] at h
  exact h
theorem aw_new3 {w : World} {A : Option Addr} {c : Nat} (hl : LabsAt w A 2 zeroF zeroF) (hc : 2 ≤ c) :
    Calls Try.prog 8 #[.slice A 2 c, .slice none 0 0] w fun e w' => e = .returned (.tuple #[.pointer none, .int .i64 7]) ∧ Below w.heap.size w w' := by
  have h := new_no (w := w) (A := A) (B := none) (n := 2) (m := 0) (c := c) (d := 0) (lv := zeroF) (st := zeroF) (pt := zeroF) (al := zeroF) (au := zeroF) hl (fun h => absurd h (by omega)) hc (by rw [aw_f3]; decide)
  rw [aw_f3] at h
  exact h
theorem aw_new4 {w : World} {A B : Option Addr} {c d : Nat} (hl : LabsAt w A 1 zeroF zeroF) (hp : PepsAt w B 1 oneF zeroF zeroF) (hc : 1 ≤ c) :
    Calls Try.prog 8 #[.slice A 1 c, .slice B 1 d] w fun e w' => e = .returned (.tuple #[.pointer none, .int .i64 2]) ∧ Below w.heap.size w w' := by
  have h := new_no (w := w) (n := 1) (m := 1) (c := c) (d := d) hl hp hc (by rw [aw_f4]; decide)
  rw [aw_f4] at h
  exact h

section
variable {R n m : Nat} {lv st pt al au : Nat → Int} {w : World}
theorem parts_b (h : RosAt w R n m lv st pt al au) : Calls Try.prog 10 #[.pointer (some ⟨R, 0, none⟩)] w fun e w' => e = .returned (.int .i64 n) ∧ Below w.heap.size w w' :=
  (parts_is h).mono fun _ _ ⟨he, hw⟩ => ⟨he, hw ▸ Below.refl _ _⟩
theorem people_b (h : RosAt w R n m lv st pt al au) : Calls Try.prog 11 #[.pointer (some ⟨R, 0, none⟩)] w fun e w' => e = .returned (.int .i64 m) ∧ Below w.heap.size w w' :=
  (people_is h).mono fun _ _ ⟨he, hw⟩ => ⟨he, hw ▸ Below.refl _ _⟩
theorem part_b (h : RosAt w R n m lv st pt al au) (p : Int) : Calls Try.prog 13 #[.pointer (some ⟨R, 0, none⟩), .int .i64 p] w fun e w' => e = .returned (.int .i64 (partV m pt p)) ∧ Below w.heap.size w w' :=
  (part_is h p).mono fun _ _ ⟨he, hw⟩ => ⟨he, hw ▸ Below.refl _ _⟩
end

theorem aw_below {w : World} {R : Nat} (h : RosAt w R 2 3 awLv awSt awPt awAl awAu) :
    Calls Try.prog 21 #[.pointer (some ⟨R, 0, none⟩), .agg #[.int .i64 3, .int .u16 1]] w fun e w' => ∃ A c, e = .returned (.slice A 2 c) ∧ IntsAt w' A [0, 1] ∧ Below w.heap.size w w' := by
  have e : belowL (fun i => leqB (awLv i) (awSt i) 3 1) 2 = [0, 1] := by decide
  have := below_is h 3 1
  rw [e] at this
  exact this
theorem aw_same {w : World} {A B : Option Addr} {c d : Nat} (ha : IntsAt w A [0, 1]) (hb : IntsAt w B [0, 1]) :
    Calls Try.prog 20 #[.slice A 2 c, .slice B 2 d] w fun e w' => e = .returned (.bool true) ∧ Below w.heap.size w w' := by
  have h := same_is (zs := [0, 1]) (c := c) (d := d) ha hb (by decide)
  simpa using h


theorem aw_c1 : (#[.int .i64 0, .int .u16 0, .int .i64 3, .int .u16 1] : Array Value).toList = labCells awLv awSt 2 := by rfl
theorem aw_c2 : (#[.int .i64 1, .int .i64 3, .int .u16 1, .int .i64 0, .int .i64 0, .int .u16 0, .int .i64 1, .int .i64 0, .int .u16 0] : Array Value).toList = pepCells awPt awAl awAu 3 := by rfl
theorem aw_c3 : (#[.int .i64 0, .int .u16 0, .int .i64 0, .int .u16 0] : Array Value).toList = labCells zeroF zeroF 2 := by rfl
theorem aw_c4 : (#[.int .i64 0, .int .u16 0] : Array Value).toList = labCells zeroF zeroF 1 := by rfl
theorem aw_c6 : (#[.int .i64 0, .int .i64 1] : Array Value).toList = ([0, 1] : List Int).map (Value.int .i64) := by rfl
theorem aw_c5 : (#[.int .i64 1, .int .i64 0, .int .u16 0] : Array Value).toList = pepCells oneF zeroF zeroF 1 := by rfl

end Go.Proofs.Ytnehcaefafdiaaa

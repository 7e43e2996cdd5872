/-
  Plain facts of rosters that there are: who sees, and may. No program is named here but for its words.
-/
import Derived.Test.YtnehcaefafdiaaaRosterO
namespace Go.Proofs.Ytnehcaefafdiaaa
open Go.RowKit

section
variable {n m : Nat} {lv st pt al au : Nat → Int}

/-- What holds of a roster that there is. -/
structure GoodR (n m : Nat) (lv st pt al au : Nat → Int) : Prop where
  len : 0 < n ∧ n ≤ 4 ∧ m ≤ 12
  lab : ∀ i, i < n → rightB (lv i) = true
  auth : ∀ i, i < m → rightB (al i) = true
  once : ∀ i, i < n → ∀ j, j < i → sameB (lv i) (st i) (lv j) (st j) = false
  part : ∀ i, i < m → thereB (pt i) n = true
  set : ∀ i, i < n → SetN (st i)
  aset : ∀ i, i < m → SetN (au i)

theorem not_any {p : Nat → Bool} {n : Nat} (h : ¬ anyN (fun i => !p i) n = true) : ∀ i, i < n → p i = true := fun i hi => by
  have := anyN_false (p := fun i => !p i) (by simpa using h) hi
  simpa using this

theorem good_of (h : faultV n m lv st pt al = 0) (hs : ∀ i, i < n → SetN (st i)) (ha : ∀ i, i < m → SetN (au i)) : GoodR n m lv st pt al au := by
  obtain ⟨h1, h4, h12⟩ := faultV_ok h
  rw [faultV_tail h1 h4 h12] at h
  split at h
  · cases h
  rename_i k1
  split at h
  · cases h
  rename_i k2
  split at h
  · cases h
  rename_i k3
  split at h
  · cases h
  rename_i k4
  refine ⟨⟨h1, h4, h12⟩, not_any k1, not_any k2, fun i hi j hj => ?_, not_any (p := fun i => thereB (pt i) n) k4, hs, ha⟩
  have e : twiceB n lv st = false := by simpa using k3
  exact anyN_false (p := fun j => sameB (lv i) (st i) (lv j) (st j)) (anyN_false (p := fun i => anyN (fun j => sameB (lv i) (st i) (lv j) (st j)) i) e hi) hj

theorem set_zero : SetN 0 := ⟨by omega, by omega⟩
theorem labV_set (hs : ∀ i, i < n → SetN (st i)) (p : Int) : SetN (labV n st p) := by
  cases h : thereB p n
  · simp [labV, h, set_zero]
  · obtain ⟨i, hi, rfl⟩ := there_nat h
    simp [labV, h, hs i hi]

theorem offS_0 {t : Int} (ht : SetN t) : offS 0 t = 0 := by
  obtain ⟨T, rfl⟩ := set_bv ht
  have := offS_bv 0 T
  simpa using this
theorem leq_0 {k t : Int} (hk : 0 ≤ k) (ht : SetN t) : leqB 0 0 k t = true := by
  simp [leqB, hk, offS_0 ht]

theorem sees_trans (g : GoodR n m lv st pt al au) {a b p : Int} (h1 : seesB n m lv st pt a (partV m pt b) = true) (h2 : seesB n m lv st pt b p = true) : seesB n m lv st pt a p = true := by
  simp only [seesB, Bool.and_eq_true] at *
  exact ⟨h1.1, h2.2.1, leq_trans (labV_set g.set _) (labV_set g.set _) (labV_set g.set _) h2.2.2 h1.2.2⟩

theorem own_there {who : Int} (h : thereB (partV m pt who) n = true) : ∃ i : Nat, i < m ∧ who = i := by
  cases t : thereB who m
  · rw [show partV m pt who = -1 by simp [partV, t]] at h
    simp [thereB] at h
  · exact there_nat t

theorem may_up (g : GoodR n m lv st pt al au) {who l s : Int} (h1 : thereB (partV m pt who) n = true) (h2 : leqB (labV n lv (partV m pt who)) (labV n st (partV m pt who)) l s = true) : mayB n m lv st pt al au who l s = true := by
  obtain ⟨i, hi, rfl⟩ := own_there h1
  simp only [leqB, Bool.and_eq_true, decide_eq_true_eq, beq_iff_eq] at h2
  have ha := g.auth i hi
  rw [rightB_iff] at ha
  have e : offL (labV n lv (partV m pt i)) l = 0 := by unfold offL; rw [if_neg (by omega)]
  simp only [mayB, h1, h2.2, e, Bool.true_and, Int.toNat_natCast]
  exact leq_0 ha.1 (g.aset i hi)

theorem may_more (g : GoodR n m lv st pt al au) {i j : Nat} {l s : Int} (hs : SetN s) (hi : i < m) (hj : j < m) (hp : pt i = pt j) (h1 : leqB (al i) (au i) (al j) (au j) = true) (h2 : mayB n m lv st pt al au i l s = true) : mayB n m lv st pt al au j l s = true := by
  have e : partV m pt j = partV m pt i := by simp [partV, there_of hi, there_of hj, hp]
  simp only [mayB, Bool.and_eq_true, Int.toNat_natCast, e] at *
  exact ⟨h2.1, leq_trans (offS_set (labV_set g.set _) hs) (g.aset i hi) (g.aset j hj) h2.2 h1⟩

theorem find_own (g : GoodR n m lv st pt al au) {k : Nat} (hk : k < n) : firstN (fun i => sameB (lv k) (st k) (lv i) (st i)) n = (k : Int) :=
  firstN_hit (p := fun i => sameB (lv k) (st k) (lv i) (st i)) (by simp [sameB]) (fun i hi => g.once k hk i hi) hk

end
end Go.Proofs.Ytnehcaefafdiaaa

/-
  What the laws of layer 10 ask of the program's check (a bundle); voters and fitness in plain words. No conditions.
-/
import Derived.Test.YtcddbpdebklhnaaGreatDoorRosterQ
import Derived.Test.YtcddbpdebklhnaaGreatDoorRosterL
import Derived.Test.YtcddbpdebklhnaaGreatDoorChkR
import Derived.Test.YtcddbpdebklhnaaGreatDoorLexH
namespace Go.Proofs.YtcddbpdebklhnaaGreatDoor
open Go.RowKit

section
variable (n m : Nat) (lv st pt al au : Nat → Int)
/-- The voters of a partition and a label. -/
def votersL (p l s : Int) : List Nat := (List.range m).filter fun i => decide (pt i = p) && mayB n m lv st pt al au i l s
/-- To which partition a gate goes. -/
def goalL (l s : Int) : Int := firstN (fun i => sameB l s (lv i) (st i)) n
/-- What is asked of one gate, or task, of the partition p. -/
structure FitT (p : Int) (t : TkI) : Prop where
  one : t.need ≠ 0 → t.after.length = 1
  goal : t.need ≠ 0 → 0 ≤ goalL n lv st t.lv t.st
  down : t.need ≠ 0 → leqB (lv p.toNat) (st p.toNat) t.lv t.st = false
  votes : t.need ≠ 0 → t.need ≤ (votersL n m lv st pt al au p t.lv t.st).length
def targetI (t : TkI) : Int := if t.need = 0 then -1 else goalL n lv st t.lv t.st
end
section
variable {n m : Nat} {lv st pt al au : Nat → Int}
theorem votersL_len (p l s : Int) : (votersL n m lv st pt al au p l s).length ≤ m := Nat.le_trans (List.length_filter_le _ _) (by simp)
theorem votersL_has {p l s : Int} {i : Nat} (h : i ∈ votersL n m lv st pt al au p l s) : i < m ∧ pt i = p ∧ mayB n m lv st pt al au i l s = true := by
  unfold votersL at h
  rw [List.mem_filter, List.mem_range] at h
  have h2 := h.2
  simp only [Bool.and_eq_true, decide_eq_true_eq] at h2
  exact ⟨h.1, h2.1, h2.2⟩
theorem goalL_at {l s : Int} (h : 0 ≤ goalL n lv st l s) : ∃ k : Nat, k < n ∧ goalL n lv st l s = k ∧ lv k = l ∧ st k = s := by
  unfold goalL at h ⊢
  rcases firstN_cases (fun i => sameB l s (lv i) (st i)) n with ⟨e, _⟩ | ⟨k, hk, e, hp, _⟩
  · rw [e] at h; omega
  · have h1 := sameB_iff.1 hp
    exact ⟨k, hk, e, h1.1.symm, h1.2.symm⟩
theorem voter_may {p : Nat} {l s : Int} {i : Nat} (hp : p < n) (h : i ∈ votersL n m lv st pt al au p l s) : leqB (offL (lv p) l) (offS (st p) s) (al i) (au i) = true := by
  obtain ⟨h1, h2, h3⟩ := votersL_has h
  have h4 := may_on (n := n) (lv := lv) (st := st) (al := al) (au := au) (l := l) (s := s) h1 hp h2
  rw [h4] at h3
  exact h3
end
/-- No error, or a place with one. -/
def ChkOut (w : World) (P : Prop) (e : Ending) (w' : World) : Prop := Below w.heap.size w w' ∧ ((e = .returned .nilIface ∧ P) ∨ ∃ F a x, e = .returned (fltV F) ∧ FaultAt w' F a x)
/-- What the laws ask of the program's check. -/
structure CheckOk : Prop where
  check : ∀ {w : World} {A : Option Addr} {c R nl m : Nat} {lv st pt al au : Nat → Int} {n : ByteArray} {ts : List TkI} (part : Int), TksI w A ts → ts.length ≤ c → FewI n ts → (∀ t ∈ ts, 0 ≤ t.st ∧ t.st ≤ 65535) → RosAt w R nl m lv st pt al au → GoodR nl m lv st pt al au →
    Calls Tryz.prog 9 #[.agg #[.string n, .slice A ts.length c], .pointer (some ⟨R, 0, none⟩), .int .i64 part] w (ChkOut w (RightI n ts ∧ thereB part nl = true ∧ ∀ t ∈ ts, FitT nl m lv st pt al au part t))
  targets : ∀ {w : World} {A : Option Addr} {c R nl m : Nat} {lv st pt al au : Nat → Int} {n : ByteArray} {ts : List TkI}, TksI w A ts → ts.length ≤ c → RightI n ts → (∀ t ∈ ts, 0 ≤ t.st ∧ t.st ≤ 65535) → RosAt w R nl m lv st pt al au → GoodR nl m lv st pt al au →
    Calls Tryz.prog 10 #[.agg #[.string n, .slice A ts.length c], .pointer (some ⟨R, 0, none⟩)] w fun e w' => (∃ B b, e = .returned (.slice B (ts.map (targetI nl lv st)).length b) ∧ NumsAt w' B (ts.map (targetI nl lv st))) ∧ Below w.heap.size w w'
  voters : ∀ {w : World} {R nl m : Nat} {lv st pt al au : Nat → Int} (part l s : Int), SetN s → RosAt w R nl m lv st pt al au → GoodR nl m lv st pt al au →
    Calls Tryz.prog 12 #[.pointer (some ⟨R, 0, none⟩), .int .i64 part, .agg #[.int .i64 l, .int .u16 s]] w fun e w' => (∃ B b, e = .returned (.slice B (votersL nl m lv st pt al au part l s).length b) ∧ NatsAt w' B (votersL nl m lv st pt al au part l s)) ∧ Below w.heap.size w w'
  votersNo : ∀ {w : World} (part l s : Int), Calls Tryz.prog 12 #[.pointer none, .int .i64 part, .agg #[.int .i64 l, .int .u16 s]] w fun e w' => (∃ B b, e = .returned (.slice B 0 b)) ∧ Below w.heap.size w w'
  checkNo : ∀ {w : World} (part : Int), Calls Tryz.prog 9 #[.agg #[.string ⟨#[]⟩, .slice none 0 0], .pointer none, .int .i64 part] w (ChkOut w False)
end Go.Proofs.YtcddbpdebklhnaaGreatDoor

/-
  Lists of labels and of principals that come in as arguments, opened to their cells. No conditions. Plain facts of rosters that there are: who sees, and may. No program is named here but for its words.
-/
import Derived.Test.YtcddbpdebklhnaaGreatDoorRosterL
import Derived.ProofKit
import Derived.OpenShut
import Derived.ChangeOld
import Derived.Deep.Slices
import Derived.Lib.SmallJoins
namespace Go.Proofs.YtcddbpdebklhnaaGreatDoor
open Go.ChangeShapes Go.WideShapes Go.ChangeAt Go.RowKit Go.Joins Go.Deep

/-- The number that a cell holds. -/
def numAt (w : World) (a : Addr) : Int := match w.cell? a with | some (.int _ z) => z | _ => 0

set_option maxRecDepth 100000 in
theorem set_of_wf {s : Int} (h : (Lit.int .u16 s).wf = true) : SetN s := by
  have := bounds_u16 h
  exact ⟨this.1, by omega⟩

section
variable {H : Type} {enc : TypeId × Value → H} {w : World} {base : Nat} {spare : Nat → Bool} {held : Bool}

set_option maxRecDepth 100000 in
theorem cellsL : Tryz.prog.cellsOf 41 = 2 := by kernel_rfl
set_option maxRecDepth 100000 in
theorem cellsP : Tryz.prog.cellsOf 47 = 3 := by kernel_rfl
set_option maxRecDepth 100000 in
theorem cellsI : Tryz.prog.cellsOf 3 = 1 := by kernel_rfl
set_option maxRecDepth 100000 in
theorem cellsU : Tryz.prog.cellsOf 39 = 1 := by kernel_rfl

set_option maxRecDepth 100000 in
/-- One label: its two cells. -/
theorem lab_open {fuel : Nat} {cs : List Value} {x : DataW H × List MemPlace} (h : DataW.trod enc Tryz.prog w base spare held fuel 41 cs = some x) :
    ∃ l s : Int, cs = [.int .i64 l, .int .u16 s] ∧ SetN s := by
  obtain ⟨xs, n, _, _, hlen, hxl, hf⟩ := DataW.trod_struct Tryz.underlying41 h
  rw [cellsL] at hlen
  match cs, hlen with
  | [c0, c1], _ =>
    have h0 := hf 0 _ rfl
    have h1 := hf 1 _ rfl
    have hx0 : xs[0]? = some (xs[0]'(by rw [hxl]; decide)) := List.getElem?_eq_getElem _
    have hx1 : xs[1]? = some (xs[1]'(by rw [hxl]; decide)) := List.getElem?_eq_getElem _
    rw [hx0] at h0
    rw [hx1] at h1
    simp only [List.getElem_toArray, List.getElem_cons_zero, List.getElem_cons_succ] at h0 h1
    simp only [cellsI, cellsU, List.drop_zero, List.take_succ_cons, List.take_zero, List.drop_succ_cons] at h0 h1
    obtain ⟨l, e0, _, _⟩ := DataW.trod_int Tryz.underlying3 h0
    obtain ⟨s, e1, _, hs⟩ := DataW.trod_int Tryz.underlying39 h1
    injection e0 with e0
    injection e1 with e1
    exact ⟨l, s, by rw [e0, e1], set_of_wf hs⟩

set_option maxRecDepth 100000 in
/-- One principal: its three cells. -/
theorem pep_open {fuel : Nat} {cs : List Value} {x : DataW H × List MemPlace} (h : DataW.trod enc Tryz.prog w base spare held fuel 47 cs = some x) :
    ∃ p l s : Int, cs = [.int .i64 p, .int .i64 l, .int .u16 s] ∧ SetN s := by
  obtain ⟨xs, n, _, _, hlen, hxl, hf⟩ := DataW.trod_struct Tryz.underlying47 h
  rw [cellsP] at hlen
  match cs, hlen with
  | [c0, c1, c2], _ =>
    have h0 := hf 0 _ rfl
    have h1 := hf 1 _ rfl
    have hx0 : xs[0]? = some (xs[0]'(by rw [hxl]; decide)) := List.getElem?_eq_getElem _
    have hx1 : xs[1]? = some (xs[1]'(by rw [hxl]; decide)) := List.getElem?_eq_getElem _
    rw [hx0] at h0
    rw [hx1] at h1
    simp only [List.getElem_toArray, List.getElem_cons_zero, List.getElem_cons_succ] at h0 h1
    simp only [cellsI, cellsL, List.drop_zero, List.take_succ_cons, List.take_zero, List.drop_succ_cons] at h0 h1
    obtain ⟨p, e0, _, _⟩ := DataW.trod_int Tryz.underlying3 h0
    obtain ⟨l, s, e1, hs⟩ := lab_open h1
    injection e0 with e0
    injection e1 with e1 e2
    injection e2 with e2
    exact ⟨p, l, s, by rw [e0, e1, e2], hs⟩

set_option maxRecDepth 100000 in
theorem labs_open {fuel : Nat} {A : Option Addr} {n c : Nat} {x : DataW H × List MemPlace} (h : DataW.trod enc Tryz.prog w base spare held fuel 25 [.slice A n c] = some x) :
    ∃ lv st : Nat → Int, LabsAt w A n lv st ∧ n ≤ c ∧ (A = none → n = 0 ∧ c = 0) ∧ ∀ i, i < n → SetN (st i) := by
  rcases open_slice Tryz.underlying25 h with ⟨h0, _⟩ | ⟨a, len, cap, m, k, D, Pl, hcs, _, hl, _, hmm, _, hi⟩
  · injection h0 with h0
    injection h0 with hA hn hc
    subst hA hn hc
    exact ⟨fun _ => 0, fun _ => 0, fun h => absurd h (by omega), Nat.le_refl _, fun _ => ⟨rfl, rfl⟩, fun i hi => absurd hi (by omega)⟩
  · injection hcs with hcs
    injection hcs with hA hn hc
    subst hA hn hc
    have hm : n ≤ m := by rw [hmm]; split <;> omega
    have each : ∀ i, i < n → ∃ l s : Int, w.cell? (a.add (i * 2)) = some (.int .i64 l) ∧ w.cell? (a.add (i * 2 + 1)) = some (.int .u16 s) ∧ SetN s := fun i hin => by
      obtain ⟨cs', hc', ht'⟩ := hi i (by omega)
      obtain ⟨l, s, rfl, hs⟩ := lab_open ht'
      rw [cellsL] at hc'
      obtain ⟨_, _, hat⟩ := World.cells?_some hc'
      refine ⟨l, s, ?_, ?_, hs⟩
      · have := hat 0 (by omega); simpa [Go.Deep.add_add] using this
      · have := hat 1 (by omega); rw [Go.Deep.add_add] at this; simpa using this
    refine ⟨fun i => numAt w (a.add (i * 2)), fun i => numAt w (a.add (i * 2 + 1)), fun _ => ⟨a, rfl, fun i hin => ?_⟩, hl, fun h => (by cases h), fun i hin => ?_⟩
    · obtain ⟨l, s, h0, h1, _⟩ := each i hin
      rw [addr_next]
      simp only [numAt, h0, h1]
      exact ⟨trivial, trivial⟩
    · obtain ⟨l, s, h0, h1, hs⟩ := each i hin
      simp only [numAt, h1]
      exact hs

set_option maxRecDepth 100000 in
theorem peps_open {fuel : Nat} {A : Option Addr} {n c : Nat} {x : DataW H × List MemPlace} (h : DataW.trod enc Tryz.prog w base spare held fuel 26 [.slice A n c] = some x) :
    ∃ pt al au : Nat → Int, PepsAt w A n pt al au ∧ n ≤ c ∧ (A = none → n = 0 ∧ c = 0) ∧ ∀ i, i < n → SetN (au i) := by
  rcases open_slice Tryz.underlying26 h with ⟨h0, _⟩ | ⟨a, len, cap, m, k, D, Pl, hcs, _, hl, _, hmm, _, hi⟩
  · injection h0 with h0
    injection h0 with hA hn hc
    subst hA hn hc
    exact ⟨fun _ => 0, fun _ => 0, fun _ => 0, fun h => absurd h (by omega), Nat.le_refl _, fun _ => ⟨rfl, rfl⟩, fun i hi => absurd hi (by omega)⟩
  · injection hcs with hcs
    injection hcs with hA hn hc
    subst hA hn hc
    have hm : n ≤ m := by rw [hmm]; split <;> omega
    have each : ∀ i, i < n → ∃ p l s : Int, w.cell? (a.add (i * 3)) = some (.int .i64 p) ∧ w.cell? (a.add (i * 3 + 1)) = some (.int .i64 l) ∧ w.cell? (a.add (i * 3 + 2)) = some (.int .u16 s) ∧ SetN s := fun i hin => by
      obtain ⟨cs', hc', ht'⟩ := hi i (by omega)
      obtain ⟨p, l, s, rfl, hs⟩ := pep_open ht'
      rw [cellsP] at hc'
      obtain ⟨_, _, hat⟩ := World.cells?_some hc'
      refine ⟨p, l, s, ?_, ?_, ?_, hs⟩
      · have := hat 0 (by omega); simpa [Go.Deep.add_add] using this
      · have := hat 1 (by omega); rw [Go.Deep.add_add] at this; simpa using this
      · have := hat 2 (by omega); rw [Go.Deep.add_add] at this; simpa using this
    refine ⟨fun i => numAt w (a.add (i * 3)), fun i => numAt w (a.add (i * 3 + 1)), fun i => numAt w (a.add (i * 3 + 2)), fun _ => ⟨a, rfl, fun i hin => ?_⟩, hl, fun h => (by cases h), fun i hin => ?_⟩
    · obtain ⟨p, l, s, h0, h1, h2, _⟩ := each i hin
      rw [addr_next, addr_next2]
      simp only [numAt, h0, h1, h2]
      exact ⟨trivial, trivial, trivial⟩
    · obtain ⟨p, l, s, h0, h1, h2, hs⟩ := each i hin
      simp only [numAt, h2]
      exact hs

end
end Go.Proofs.YtcddbpdebklhnaaGreatDoor

namespace Go.Proofs.YtcddbpdebklhnaaGreatDoor
open Go.RowKit

section
variable {n m : Nat} {lv st pt al au : Nat → Int}

/-- What holds of a roster that there is. -/
structure GoodR (n m : Nat) (lv st pt al au : Nat → Int) : Prop where
  len : 0 < n ∧ n ≤ 4 ∧ m ≤ 12
  lab : ∀ i, i < n → rightB (lv i) = true
  auth : ∀ i, i < m → rightB (al i) = true
  once : ∀ i, i < n → ∀ j, j < i → sameB (lv i) (st i) (lv j) (st j) = false
  part : ∀ i, i < m → thereB (pt i) n = true
  set : ∀ i, i < n → SetN (st i)
  aset : ∀ i, i < m → SetN (au i)

theorem not_any {p : Nat → Bool} {n : Nat} (h : ¬ anyN (fun i => !p i) n = true) : ∀ i, i < n → p i = true := fun i hi => by
  have := anyN_false (p := fun i => !p i) (by simpa using h) hi
  simpa using this

theorem good_of (h : faultV n m lv st pt al = 0) (hs : ∀ i, i < n → SetN (st i)) (ha : ∀ i, i < m → SetN (au i)) : GoodR n m lv st pt al au := by
  obtain ⟨h1, h4, h12⟩ := faultV_ok h
  rw [faultV_tail h1 h4 h12] at h
  split at h
  · cases h
  rename_i k1
  split at h
  · cases h
  rename_i k2
  split at h
  · cases h
  rename_i k3
  split at h
  · cases h
  rename_i k4
  refine ⟨⟨h1, h4, h12⟩, not_any k1, not_any k2, fun i hi j hj => ?_, not_any (p := fun i => thereB (pt i) n) k4, hs, ha⟩
  have e : twiceB n lv st = false := by simpa using k3
  exact anyN_false (p := fun j => sameB (lv i) (st i) (lv j) (st j)) (anyN_false (p := fun i => anyN (fun j => sameB (lv i) (st i) (lv j) (st j)) i) e hi) hj

theorem set_zero : SetN 0 := ⟨by omega, by omega⟩
theorem labV_set (hs : ∀ i, i < n → SetN (st i)) (p : Int) : SetN (rlabV n st p) := by
  cases h : thereB p n
  · simp [rlabV, h, set_zero]
  · obtain ⟨i, hi, rfl⟩ := there_nat h
    simp [rlabV, h, hs i hi]

theorem offS_0 {t : Int} (ht : SetN t) : offS 0 t = 0 := by
  obtain ⟨T, rfl⟩ := set_bv ht
  have := offS_bv 0 T
  simpa using this
theorem leq_0 {k t : Int} (hk : 0 ≤ k) (ht : SetN t) : leqB 0 0 k t = true := by
  simp [leqB, hk, offS_0 ht]

theorem sees_trans (g : GoodR n m lv st pt al au) {a b p : Int} (h1 : seesB n m lv st pt a (partV m pt b) = true) (h2 : seesB n m lv st pt b p = true) : seesB n m lv st pt a p = true := by
  simp only [seesB, Bool.and_eq_true] at *
  exact ⟨h1.1, h2.2.1, leq_trans (labV_set g.set _) (labV_set g.set _) (labV_set g.set _) h2.2.2 h1.2.2⟩

theorem own_there {who : Int} (h : thereB (partV m pt who) n = true) : ∃ i : Nat, i < m ∧ who = i := by
  cases t : thereB who m
  · rw [show partV m pt who = -1 by simp [partV, t]] at h
    simp [thereB] at h
  · exact there_nat t

theorem may_up (g : GoodR n m lv st pt al au) {who l s : Int} (h1 : thereB (partV m pt who) n = true) (h2 : leqB (rlabV n lv (partV m pt who)) (rlabV n st (partV m pt who)) l s = true) : mayB n m lv st pt al au who l s = true := by
  obtain ⟨i, hi, rfl⟩ := own_there h1
  simp only [leqB, Bool.and_eq_true, decide_eq_true_eq, beq_iff_eq] at h2
  have ha := g.auth i hi
  rw [rightB_iff] at ha
  have e : offL (rlabV n lv (partV m pt i)) l = 0 := by unfold offL; rw [if_neg (by omega)]
  simp only [mayB, h1, h2.2, e, Bool.true_and, Int.toNat_natCast]
  exact leq_0 ha.1 (g.aset i hi)

theorem may_more (g : GoodR n m lv st pt al au) {i j : Nat} {l s : Int} (hs : SetN s) (hi : i < m) (hj : j < m) (hp : pt i = pt j) (h1 : leqB (al i) (au i) (al j) (au j) = true) (h2 : mayB n m lv st pt al au i l s = true) : mayB n m lv st pt al au j l s = true := by
  have e : partV m pt j = partV m pt i := by simp [partV, there_of hi, there_of hj, hp]
  simp only [mayB, Bool.and_eq_true, Int.toNat_natCast, e] at *
  exact ⟨h2.1, leq_trans (offS_set (labV_set g.set _) hs) (g.aset i hi) (g.aset j hj) h2.2 h1⟩

theorem find_own (g : GoodR n m lv st pt al au) {k : Nat} (hk : k < n) : firstN (fun i => sameB (lv k) (st k) (lv i) (st i)) n = (k : Int) :=
  firstN_hit (p := fun i => sameB (lv k) (st k) (lv i) (st i)) (by simp [sameB]) (fun i hi => g.once k hk i hi) hk

end
end Go.Proofs.YtcddbpdebklhnaaGreatDoor

/-
  A pipeline that comes in as an argument, opened: any numbers in After. No conditions but how it lies.
-/
import Derived.Test.YtcddbpdebklhnaaGreatDoorOrdP
import Derived.Test.YtcddbpdebklhnaaGreatDoorRows
import Derived.ProofKit
import Derived.OpenShut
import Derived.ChangeOld
import Derived.Deep.Slices
import Derived.Deep.Grids
import Derived.SliceStrings
import Derived.Lib.SmallJoins
namespace Go.Proofs.YtcddbpdebklhnaaGreatDoor
open Go.ChangeShapes Go.WideShapes Go.ChangeAt Go.RowKit Go.Joins Go.Deep

set_option maxRecDepth 100000 in
theorem cellsTask : Tryz.prog.cellsOf 43 = 7 := by kernel_rfl
set_option maxRecDepth 100000 in
theorem cellsPipe : Tryz.prog.cellsOf 24 = 2 := by kernel_rfl
set_option maxRecDepth 100000 in
theorem cellsLabO : Tryz.prog.cellsOf 41 = 2 := by kernel_rfl
set_option maxRecDepth 100000 in
theorem cellsIO : Tryz.prog.cellsOf 3 = 1 := by kernel_rfl
set_option maxRecDepth 100000 in
theorem cellsHO : Tryz.prog.cellsOf 39 = 1 := by kernel_rfl
set_option maxRecDepth 100000 in
theorem cellsSO : Tryz.prog.cellsOf 9 = 1 := by kernel_rfl
set_option maxRecDepth 100000 in
theorem cellsBO : Tryz.prog.cellsOf 4 = 1 := by kernel_rfl
set_option maxRecDepth 100000 in
theorem cellsIsO : Tryz.prog.cellsOf 37 = 1 := by kernel_rfl
set_option maxRecDepth 100000 in
theorem cellsTksO : Tryz.prog.cellsOf 22 = 1 := by kernel_rfl
instance : Inhabited TkI := ⟨⟨⟨#[]⟩, [], 0, 0, 0, 0, 0⟩⟩
/-- What is known of a task that comes in. -/
structure TkI.Ok (t : TkI) : Prop where
  name : t.name.size ≤ maxLen
  st : 0 ≤ t.st ∧ t.st ≤ 65535
  after : t.after.length ≤ maxLen
section
variable {H : Type} {enc : TypeId × Value → H} {w : World} {base : Nat} {spare : Nat → Bool} {held : Bool}
set_option maxRecDepth 100000 in
theorem nums_open {fuel : Nat} {cs : List Value} {x : DataW H × List MemPlace} (h : DataW.trod enc Tryz.prog w base spare held fuel 37 cs = some x) :
    ∃ (A : Option Addr) (zs : List Int) (c : Nat), cs = [.slice A zs.length c] ∧ NumsAt w A zs ∧ zs.length ≤ c ∧ zs.length ≤ maxLen := by
  rcases open_ints Tryz.underlying37 Tryz.underlying3 cellsIO h with ⟨h0, _⟩ | ⟨a, len, cap, zs, hcs, _, hl, hm, hz, _, hc, _⟩
  · exact ⟨none, [], 0, h0, fun h => absurd h (Nat.lt_irrefl _), Nat.le_refl _, Nat.zero_le _⟩
  · have hlz : len ≤ zs.length := by rw [hz]; split <;> omega
    have hlt : (zs.take len).length = len := by rw [List.length_take]; omega
    refine ⟨some a, zs.take len, cap, by rw [hlt]; exact hcs, fun _ => ⟨a, rfl, fun i n hi => ?_⟩, by omega, by omega⟩
    have hi1 := (List.getElem?_eq_some_iff.1 hi).1
    rw [hlt] at hi1
    rw [List.getElem?_take_of_lt hi1] at hi
    have h1 := hc i (by omega)
    rw [show zs.getD i 0 = n by rw [List.getD, hi]; rfl] at h1
    exact h1
set_option maxRecDepth 100000 in
theorem labo_open {fuel : Nat} {cs : List Value} {x : DataW H × List MemPlace} (h : DataW.trod enc Tryz.prog w base spare held fuel 41 cs = some x) :
    ∃ a b : Int, cs = [.int .i64 a, .int .u16 b] ∧ 0 ≤ b ∧ b ≤ 65535 := by
  obtain ⟨xs, n, _, _, hlen, hxl, hf⟩ := DataW.trod_struct Tryz.underlying41 h
  rw [cellsLabO] at hlen
  match cs, hlen with
  | [c0, c1], _ =>
    have h0 := hf 0 _ rfl
    have h1 := hf 1 _ rfl
    have hx0 : xs[0]? = some (xs[0]'(by rw [hxl]; decide)) := List.getElem?_eq_getElem _
    have hx1 : xs[1]? = some (xs[1]'(by rw [hxl]; decide)) := List.getElem?_eq_getElem _
    rw [hx0] at h0
    rw [hx1] at h1
    simp only [List.getElem_toArray, List.getElem_cons_zero, List.getElem_cons_succ] at h0 h1
    simp only [cellsIO, cellsHO, List.drop_zero, List.take_succ_cons, List.take_zero, List.drop_succ_cons] at h0 h1
    obtain ⟨a, e0, _, ha⟩ := DataW.trod_int Tryz.underlying3 h0
    obtain ⟨b, e1, _, hb⟩ := DataW.trod_int Tryz.underlying39 h1
    injection e0 with e0
    injection e1 with e1
    exact ⟨a, b, by rw [e0, e1], bounds_u16 hb⟩
set_option maxRecDepth 100000 in
/-- One task: its seven cells. -/
theorem task_open {fuel : Nat} {cs : List Value} {x : DataW H × List MemPlace} (h : DataW.trod enc Tryz.prog w base spare held fuel 43 cs = some x) :
    ∃ (t : TkI) (B : Option Addr) (c : Nat), cs = tkiC t (.slice B t.after.length c) ∧ NumsAt w B t.after ∧ t.after.length ≤ c ∧ t.Ok := by
  obtain ⟨xs, n, _, _, hlen, hxl, hf⟩ := DataW.trod_struct Tryz.underlying43 h
  rw [cellsTask] at hlen
  match cs, hlen with
  | [c0, c1, c2, c3, c4, c5, c6], _ =>
    have h0 := hf 0 _ rfl
    have h1 := hf 1 _ rfl
    have h2 := hf 2 _ rfl
    have h3 := hf 3 _ rfl
    have h4 := hf 4 _ rfl
    have h5 := hf 5 _ rfl
    have hx0 : xs[0]? = some (xs[0]'(by rw [hxl]; decide)) := List.getElem?_eq_getElem _
    have hx1 : xs[1]? = some (xs[1]'(by rw [hxl]; decide)) := List.getElem?_eq_getElem _
    have hx2 : xs[2]? = some (xs[2]'(by rw [hxl]; decide)) := List.getElem?_eq_getElem _
    have hx3 : xs[3]? = some (xs[3]'(by rw [hxl]; decide)) := List.getElem?_eq_getElem _
    have hx4 : xs[4]? = some (xs[4]'(by rw [hxl]; decide)) := List.getElem?_eq_getElem _
    have hx5 : xs[5]? = some (xs[5]'(by rw [hxl]; decide)) := List.getElem?_eq_getElem _
    rw [hx0] at h0
    rw [hx1] at h1
    rw [hx2] at h2
    rw [hx3] at h3
    rw [hx4] at h4
    rw [hx5] at h5
    simp only [List.getElem_toArray, List.getElem_cons_zero, List.getElem_cons_succ] at h0 h1 h2 h3 h4 h5
    simp only [cellsIO, cellsSO, cellsIsO, cellsLabO, List.drop_zero, List.take_succ_cons, List.take_zero, List.drop_succ_cons] at h0 h1 h2 h3 h4 h5
    obtain ⟨s, e0, _, w0⟩ := DataW.trod_string Tryz.underlying9 h0
    obtain ⟨B, zs, c, e1, w1, w2, w3⟩ := nums_open h1
    obtain ⟨v2, e2, _, _⟩ := DataW.trod_int Tryz.underlying3 h2
    obtain ⟨v3, e3, _, _⟩ := DataW.trod_int Tryz.underlying3 h3
    obtain ⟨v4, e4, _, _⟩ := DataW.trod_int Tryz.underlying3 h4
    obtain ⟨a, b, e5, w5⟩ := labo_open h5
    injection e0 with e0
    injection e1 with e1
    injection e2 with e2
    injection e3 with e3
    injection e4 with e4
    injection e5 with e5 e6
    injection e6 with e6
    exact ⟨⟨s, zs, v2, v3, v4, a, b⟩, B, c, by unfold tkiC; rw [e0, e1, e2, e3, e4, e5, e6], w1, w2, w0, w5, w3⟩
set_option maxRecDepth 100000 in
theorem tks_open {fuel : Nat} {cs : List Value} {x : DataW H × List MemPlace} (h : DataW.trod enc Tryz.prog w base spare held fuel 22 cs = some x) :
    ∃ (A : Option Addr) (ts : List TkI) (c : Nat), cs = [.slice A ts.length c] ∧ TksI w A ts ∧ ts.length ≤ c ∧ ts.length ≤ maxLen ∧ ∀ t ∈ ts, t.Ok := by
  rcases open_slice Tryz.underlying22 h with ⟨h0, _⟩ | ⟨a, len, cap, m, k, D, Pl, hcs, _, hl, hm, hmm, _, hi⟩
  · exact ⟨none, [], 0, h0, fun h => absurd h (Nat.lt_irrefl _), Nat.le_refl _, Nat.zero_le _, fun t ht => by simp at ht⟩
  · have hlm : len ≤ m := by rw [hmm]; split <;> omega
    obtain ⟨T, hT⟩ := choose_lt (n := len) (α := TkI) (p := fun i t => (∃ B c, (∀ (j : Nat) (v : Value), (tkiC t (.slice B t.after.length c))[j]? = some v → w.cell? (a.add (i * 7 + j)) = some v) ∧ NumsAt w B t.after ∧ t.after.length ≤ c) ∧ t.Ok) (fun i hil => by
      obtain ⟨cs', hc', ht'⟩ := hi i (by omega)
      obtain ⟨t, B, c, rfl, h1, h2, h3⟩ := task_open ht'
      rw [cellsTask] at hc'
      obtain ⟨_, _, hat⟩ := World.cells?_some hc'
      refine ⟨t, ⟨B, c, fun j v hj => ?_, h1, h2⟩, h3⟩
      have hj7 : j < 7 := by
        have := (List.getElem?_eq_some_iff.1 hj).1
        simpa [tkiC] using this
      have := hat j hj7
      rw [Go.Deep.add_add] at this
      rw [this, hj])
    have hlt : ((List.range len).map T).length = len := by simp
    refine ⟨some a, (List.range len).map T, cap, by rw [hlt]; exact hcs, fun _ => ⟨a, rfl, fun i t hi => ?_⟩, by omega, by omega, fun t ht => ?_⟩
    · have hil := (List.getElem?_eq_some_iff.1 hi).1
      rw [hlt] at hil
      rw [List.getElem?_map, List.getElem?_range hil] at hi
      obtain rfl : T i = t := by simpa using hi
      exact (hT i hil).1
    · obtain ⟨i, hi, rfl⟩ := List.mem_map.1 ht
      exact (hT i (List.mem_range.1 hi)).2
set_option maxRecDepth 100000 in
/-- One pipeline: its two cells. -/
theorem pipe_cells {fuel : Nat} {cs : List Value} {x : DataW H × List MemPlace} (h : DataW.trod enc Tryz.prog w base spare held fuel 24 cs = some x) :
    ∃ (n : ByteArray) (A : Option Addr) (ts : List TkI) (c : Nat), cs = [.string n, .slice A ts.length c] ∧ n.size ≤ maxLen ∧ TksI w A ts ∧ ts.length ≤ c ∧ ts.length ≤ maxLen ∧ ∀ t ∈ ts, t.Ok := by
  obtain ⟨xs, n, _, _, hlen, hxl, hf⟩ := DataW.trod_struct Tryz.underlying24 h
  rw [cellsPipe] at hlen
  match cs, hlen with
  | [c0, c1], _ =>
    have h0 := hf 0 _ rfl
    have h1 := hf 1 _ rfl
    have hx0 : xs[0]? = some (xs[0]'(by rw [hxl]; decide)) := List.getElem?_eq_getElem _
    have hx1 : xs[1]? = some (xs[1]'(by rw [hxl]; decide)) := List.getElem?_eq_getElem _
    rw [hx0] at h0
    rw [hx1] at h1
    simp only [List.getElem_toArray, List.getElem_cons_zero, List.getElem_cons_succ] at h0 h1
    simp only [cellsSO, cellsTksO, List.drop_zero, List.take_succ_cons, List.take_zero, List.drop_succ_cons] at h0 h1
    obtain ⟨s, e0, _, w0⟩ := DataW.trod_string Tryz.underlying9 h0
    obtain ⟨A, ts, c, e1, w1⟩ := tks_open h1
    injection e0 with e0
    injection e1 with e1
    exact ⟨s, A, ts, c, by rw [e0, e1], w0, w1⟩
set_option maxRecDepth 100000 in
theorem pipe_open {r : Reach} {b0 : Nat} {v : Value} {d : DataW H} {p : List MemPlace} (hv : Value.okWide Tryz.prog w r b0 24 v) (h : DataW.Trod enc Tryz.prog w base spare held 24 v d p) :
    ∃ (n : ByteArray) (A : Option Addr) (ts : List TkI) (c : Nat), v = .agg #[.string n, .slice A ts.length c] ∧ n.size ≤ maxLen ∧ TksI w A ts ∧ ts.length ≤ c ∧ ts.length ≤ maxLen ∧ ∀ t ∈ ts, t.Ok := by
  obtain ⟨cs, rfl, hsz⟩ := okWide_struct Tryz.underlying24 hv
  obtain ⟨fuel, hf0⟩ := h
  obtain ⟨n, A, ts, c, e, h1⟩ := pipe_cells hf0
  refine ⟨n, A, ts, c, ?_, h1⟩
  obtain ⟨l⟩ := cs
  simp [Value.cells] at e
  rw [e]
/-- The truths l stand at A. -/
def BoolsAt (w : World) (A : Option Addr) (l : List Bool) : Prop := 0 < l.length → ∃ ad, A = some ad ∧ ∀ (i : Nat) (n : Bool), l[i]? = some n → w.cell? (ad.add i) = some (.bool n)
set_option maxRecDepth 100000 in
theorem BoolsAt.later {w w' : World} {A : Option Addr} {l : List Bool} (h : BoolsAt w A l) (hb : Below w.heap.size w w') : BoolsAt w' A l := fun hn => by
  obtain ⟨ad, e, hc⟩ := h hn
  exact ⟨ad, e, fun i n hi => cell_later hb (hc i n hi)⟩
set_option maxRecDepth 100000 in
theorem BoolsAt.at_ {w : World} {A : Option Addr} {l : List Bool} (h : BoolsAt w A l) {i : Nat} {n : Bool} (hi : l[i]? = some n) : ∃ ad, A = some ad ∧ w.cell? (ad.add i) = some (.bool n) := by
  obtain ⟨ad, e, hc⟩ := h (by have := (List.getElem?_eq_some_iff.1 hi).1; omega)
  exact ⟨ad, e, hc i n hi⟩
end
end Go.Proofs.YtcddbpdebklhnaaGreatDoor

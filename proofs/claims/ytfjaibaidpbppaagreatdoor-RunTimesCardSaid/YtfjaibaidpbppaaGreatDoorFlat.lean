/-
  A pipeline that comes in as an argument, opened: any numbers in After. No conditions but how it lies. What the document's Few (package lockageref08) answers of any pipeline: true only of one that is few. Condition: no more than maxLen tasks (of an argument that is so). What OrderLong asks of the program's order (a bundle), and the plain facts that it asks of the numbers. No conditions. Numbers in memory, by block and place. No conditions.
-/
import Derived.Test.YtfjaibaidpbppaaGreatDoorLsR
import Derived.Test.YtfjaibaidpbppaaGreatDoorRows
import Derived.ProofKit
import Derived.OpenShut
import Derived.ChangeOld
import Derived.Deep.Slices
import Derived.Deep.Grids
import Derived.SliceStrings
import Derived.Lib.SmallJoins
namespace Go.Proofs.YtfjaibaidpbppaaGreatDoor
open Go.ChangeShapes Go.WideShapes Go.ChangeAt Go.RowKit Go.Joins Go.Deep

set_option maxRecDepth 100000 in
theorem cellsTask : Tryz.prog.cellsOf 65 = 7 := by kernel_rfl
set_option maxRecDepth 100000 in
theorem cellsPipe : Tryz.prog.cellsOf 24 = 2 := by kernel_rfl
set_option maxRecDepth 100000 in
theorem cellsLabO : Tryz.prog.cellsOf 63 = 2 := by kernel_rfl
set_option maxRecDepth 100000 in
theorem cellsIO : Tryz.prog.cellsOf 3 = 1 := by kernel_rfl
set_option maxRecDepth 100000 in
theorem cellsHO : Tryz.prog.cellsOf 61 = 1 := by kernel_rfl
set_option maxRecDepth 100000 in
theorem cellsSO : Tryz.prog.cellsOf 9 = 1 := by kernel_rfl
set_option maxRecDepth 100000 in
theorem cellsBO : Tryz.prog.cellsOf 4 = 1 := by kernel_rfl
set_option maxRecDepth 100000 in
theorem cellsIsO : Tryz.prog.cellsOf 60 = 1 := by kernel_rfl
set_option maxRecDepth 100000 in
theorem cellsTksO : Tryz.prog.cellsOf 22 = 1 := by kernel_rfl
instance : Inhabited TkI := ⟨⟨⟨#[]⟩, [], 0, 0, 0, 0, 0⟩⟩
/-- What is known of a task that comes in. -/
structure TkI.Ok (t : TkI) : Prop where
  name : t.name.size ≤ maxLen
  st : 0 ≤ t.st ∧ t.st ≤ 65535
  after : t.after.length ≤ maxLen
section
variable {H : Type} {enc : TypeId × Value → H} {w : World} {base : Nat} {spare : Nat → Bool} {held : Bool}
set_option maxRecDepth 100000 in
theorem nums_open {fuel : Nat} {cs : List Value} {x : DataW H × List MemPlace} (h : DataW.trod enc Tryz.prog w base spare held fuel 60 cs = some x) :
    ∃ (A : Option Addr) (zs : List Int) (c : Nat), cs = [.slice A zs.length c] ∧ NumsAt w A zs ∧ zs.length ≤ c ∧ zs.length ≤ maxLen := by
  rcases open_ints Tryz.underlying60 Tryz.underlying3 cellsIO h with ⟨h0, _⟩ | ⟨a, len, cap, zs, hcs, _, hl, hm, hz, _, hc, _⟩
  · exact ⟨none, [], 0, h0, fun h => absurd h (Nat.lt_irrefl _), Nat.le_refl _, Nat.zero_le _⟩
  · have hlz : len ≤ zs.length := by rw [hz]; split <;> omega
    have hlt : (zs.take len).length = len := by rw [List.length_take]; omega
    refine ⟨some a, zs.take len, cap, by rw [hlt]; exact hcs, fun _ => ⟨a, rfl, fun i n hi => ?_⟩, by omega, by omega⟩
    have hi1 := (List.getElem?_eq_some_iff.1 hi).1
    rw [hlt] at hi1
    rw [List.getElem?_take_of_lt hi1] at hi
    have h1 := hc i (by omega)
    rw [show zs.getD i 0 = n by rw [List.getD, hi]; rfl] at h1
    exact h1
set_option maxRecDepth 100000 in
theorem labo_open {fuel : Nat} {cs : List Value} {x : DataW H × List MemPlace} (h : DataW.trod enc Tryz.prog w base spare held fuel 63 cs = some x) :
    ∃ a b : Int, cs = [.int .i64 a, .int .u16 b] ∧ 0 ≤ b ∧ b ≤ 65535 := by
  obtain ⟨xs, n, _, _, hlen, hxl, hf⟩ := DataW.trod_struct Tryz.underlying63 h
  rw [cellsLabO] at hlen
  match cs, hlen with
  | [c0, c1], _ =>
    have h0 := hf 0 _ rfl
    have h1 := hf 1 _ rfl
    have hx0 : xs[0]? = some (xs[0]'(by rw [hxl]; decide)) := List.getElem?_eq_getElem _
    have hx1 : xs[1]? = some (xs[1]'(by rw [hxl]; decide)) := List.getElem?_eq_getElem _
    rw [hx0] at h0
    rw [hx1] at h1
    simp only [List.getElem_toArray, List.getElem_cons_zero, List.getElem_cons_succ] at h0 h1
    simp only [cellsIO, cellsHO, List.drop_zero, List.take_succ_cons, List.take_zero, List.drop_succ_cons] at h0 h1
    obtain ⟨a, e0, _, ha⟩ := DataW.trod_int Tryz.underlying3 h0
    obtain ⟨b, e1, _, hb⟩ := DataW.trod_int Tryz.underlying61 h1
    injection e0 with e0
    injection e1 with e1
    exact ⟨a, b, by rw [e0, e1], bounds_u16 hb⟩
set_option maxRecDepth 100000 in
/-- One task: its seven cells. -/
theorem task_open {fuel : Nat} {cs : List Value} {x : DataW H × List MemPlace} (h : DataW.trod enc Tryz.prog w base spare held fuel 65 cs = some x) :
    ∃ (t : TkI) (B : Option Addr) (c : Nat), cs = tkiC t (.slice B t.after.length c) ∧ NumsAt w B t.after ∧ t.after.length ≤ c ∧ t.Ok := by
  obtain ⟨xs, n, _, _, hlen, hxl, hf⟩ := DataW.trod_struct Tryz.underlying65 h
  rw [cellsTask] at hlen
  match cs, hlen with
  | [c0, c1, c2, c3, c4, c5, c6], _ =>
    have h0 := hf 0 _ rfl
    have h1 := hf 1 _ rfl
    have h2 := hf 2 _ rfl
    have h3 := hf 3 _ rfl
    have h4 := hf 4 _ rfl
    have h5 := hf 5 _ rfl
    have hx0 : xs[0]? = some (xs[0]'(by rw [hxl]; decide)) := List.getElem?_eq_getElem _
    have hx1 : xs[1]? = some (xs[1]'(by rw [hxl]; decide)) := List.getElem?_eq_getElem _
    have hx2 : xs[2]? = some (xs[2]'(by rw [hxl]; decide)) := List.getElem?_eq_getElem _
    have hx3 : xs[3]? = some (xs[3]'(by rw [hxl]; decide)) := List.getElem?_eq_getElem _
    have hx4 : xs[4]? = some (xs[4]'(by rw [hxl]; decide)) := List.getElem?_eq_getElem _
    have hx5 : xs[5]? = some (xs[5]'(by rw [hxl]; decide)) := List.getElem?_eq_getElem _
    rw [hx0] at h0
    rw [hx1] at h1
    rw [hx2] at h2
    rw [hx3] at h3
    rw [hx4] at h4
    rw [hx5] at h5
    simp only [List.getElem_toArray, List.getElem_cons_zero, List.getElem_cons_succ] at h0 h1 h2 h3 h4 h5
    simp only [cellsIO, cellsSO, cellsIsO, cellsLabO, List.drop_zero, List.take_succ_cons, List.take_zero, List.drop_succ_cons] at h0 h1 h2 h3 h4 h5
    obtain ⟨s, e0, _, w0⟩ := DataW.trod_string Tryz.underlying9 h0
    obtain ⟨B, zs, c, e1, w1, w2, w3⟩ := nums_open h1
    obtain ⟨v2, e2, _, _⟩ := DataW.trod_int Tryz.underlying3 h2
    obtain ⟨v3, e3, _, _⟩ := DataW.trod_int Tryz.underlying3 h3
    obtain ⟨v4, e4, _, _⟩ := DataW.trod_int Tryz.underlying3 h4
    obtain ⟨a, b, e5, w5⟩ := labo_open h5
    injection e0 with e0
    injection e1 with e1
    injection e2 with e2
    injection e3 with e3
    injection e4 with e4
    injection e5 with e5 e6
    injection e6 with e6
    exact ⟨⟨s, zs, v2, v3, v4, a, b⟩, B, c, by unfold tkiC; rw [e0, e1, e2, e3, e4, e5, e6], w1, w2, w0, w5, w3⟩
set_option maxRecDepth 100000 in
theorem tks_open {fuel : Nat} {cs : List Value} {x : DataW H × List MemPlace} (h : DataW.trod enc Tryz.prog w base spare held fuel 22 cs = some x) :
    ∃ (A : Option Addr) (ts : List TkI) (c : Nat), cs = [.slice A ts.length c] ∧ TksI w A ts ∧ ts.length ≤ c ∧ ts.length ≤ maxLen ∧ ∀ t ∈ ts, t.Ok := by
  rcases open_slice Tryz.underlying22 h with ⟨h0, _⟩ | ⟨a, len, cap, m, k, D, Pl, hcs, _, hl, hm, hmm, _, hi⟩
  · exact ⟨none, [], 0, h0, fun h => absurd h (Nat.lt_irrefl _), Nat.le_refl _, Nat.zero_le _, fun t ht => by simp at ht⟩
  · have hlm : len ≤ m := by rw [hmm]; split <;> omega
    obtain ⟨T, hT⟩ := choose_lt (n := len) (α := TkI) (p := fun i t => (∃ B c, (∀ (j : Nat) (v : Value), (tkiC t (.slice B t.after.length c))[j]? = some v → w.cell? (a.add (i * 7 + j)) = some v) ∧ NumsAt w B t.after ∧ t.after.length ≤ c) ∧ t.Ok) (fun i hil => by
      obtain ⟨cs', hc', ht'⟩ := hi i (by omega)
      obtain ⟨t, B, c, rfl, h1, h2, h3⟩ := task_open ht'
      rw [cellsTask] at hc'
      obtain ⟨_, _, hat⟩ := World.cells?_some hc'
      refine ⟨t, ⟨B, c, fun j v hj => ?_, h1, h2⟩, h3⟩
      have hj7 : j < 7 := by
        have := (List.getElem?_eq_some_iff.1 hj).1
        simpa [tkiC] using this
      have := hat j hj7
      rw [Go.Deep.add_add] at this
      rw [this, hj])
    have hlt : ((List.range len).map T).length = len := by simp
    refine ⟨some a, (List.range len).map T, cap, by rw [hlt]; exact hcs, fun _ => ⟨a, rfl, fun i t hi => ?_⟩, by omega, by omega, fun t ht => ?_⟩
    · have hil := (List.getElem?_eq_some_iff.1 hi).1
      rw [hlt] at hil
      rw [List.getElem?_map, List.getElem?_range hil] at hi
      obtain rfl : T i = t := by simpa using hi
      exact (hT i hil).1
    · obtain ⟨i, hi, rfl⟩ := List.mem_map.1 ht
      exact (hT i (List.mem_range.1 hi)).2
set_option maxRecDepth 100000 in
/-- One pipeline: its two cells. -/
theorem pipe_cells {fuel : Nat} {cs : List Value} {x : DataW H × List MemPlace} (h : DataW.trod enc Tryz.prog w base spare held fuel 24 cs = some x) :
    ∃ (n : ByteArray) (A : Option Addr) (ts : List TkI) (c : Nat), cs = [.string n, .slice A ts.length c] ∧ n.size ≤ maxLen ∧ TksI w A ts ∧ ts.length ≤ c ∧ ts.length ≤ maxLen ∧ ∀ t ∈ ts, t.Ok := by
  obtain ⟨xs, n, _, _, hlen, hxl, hf⟩ := DataW.trod_struct Tryz.underlying24 h
  rw [cellsPipe] at hlen
  match cs, hlen with
  | [c0, c1], _ =>
    have h0 := hf 0 _ rfl
    have h1 := hf 1 _ rfl
    have hx0 : xs[0]? = some (xs[0]'(by rw [hxl]; decide)) := List.getElem?_eq_getElem _
    have hx1 : xs[1]? = some (xs[1]'(by rw [hxl]; decide)) := List.getElem?_eq_getElem _
    rw [hx0] at h0
    rw [hx1] at h1
    simp only [List.getElem_toArray, List.getElem_cons_zero, List.getElem_cons_succ] at h0 h1
    simp only [cellsSO, cellsTksO, List.drop_zero, List.take_succ_cons, List.take_zero, List.drop_succ_cons] at h0 h1
    obtain ⟨s, e0, _, w0⟩ := DataW.trod_string Tryz.underlying9 h0
    obtain ⟨A, ts, c, e1, w1⟩ := tks_open h1
    injection e0 with e0
    injection e1 with e1
    exact ⟨s, A, ts, c, by rw [e0, e1], w0, w1⟩
set_option maxRecDepth 100000 in
theorem pipe_open {r : Reach} {b0 : Nat} {v : Value} {d : DataW H} {p : List MemPlace} (hv : Value.okWide Tryz.prog w r b0 24 v) (h : DataW.Trod enc Tryz.prog w base spare held 24 v d p) :
    ∃ (n : ByteArray) (A : Option Addr) (ts : List TkI) (c : Nat), v = .agg #[.string n, .slice A ts.length c] ∧ n.size ≤ maxLen ∧ TksI w A ts ∧ ts.length ≤ c ∧ ts.length ≤ maxLen ∧ ∀ t ∈ ts, t.Ok := by
  obtain ⟨cs, rfl, hsz⟩ := okWide_struct Tryz.underlying24 hv
  obtain ⟨fuel, hf0⟩ := h
  obtain ⟨n, A, ts, c, e, h1⟩ := pipe_cells hf0
  refine ⟨n, A, ts, c, ?_, h1⟩
  obtain ⟨l⟩ := cs
  simp [Value.cells] at e
  rw [e]
/-- The truths l stand at A. -/
def BoolsAt (w : World) (A : Option Addr) (l : List Bool) : Prop := 0 < l.length → ∃ ad, A = some ad ∧ ∀ (i : Nat) (n : Bool), l[i]? = some n → w.cell? (ad.add i) = some (.bool n)
set_option maxRecDepth 100000 in
theorem BoolsAt.later {w w' : World} {A : Option Addr} {l : List Bool} (h : BoolsAt w A l) (hb : Below w.heap.size w w') : BoolsAt w' A l := fun hn => by
  obtain ⟨ad, e, hc⟩ := h hn
  exact ⟨ad, e, fun i n hi => cell_later hb (hc i n hi)⟩
set_option maxRecDepth 100000 in
theorem BoolsAt.at_ {w : World} {A : Option Addr} {l : List Bool} (h : BoolsAt w A l) {i : Nat} {n : Bool} (hi : l[i]? = some n) : ∃ ad, A = some ad ∧ w.cell? (ad.add i) = some (.bool n) := by
  obtain ⟨ad, e, hc⟩ := h (by have := (List.getElem?_eq_some_iff.1 hi).1; omega)
  exact ⟨ad, e, hc i n hi⟩
set_option maxRecDepth 100000 in
theorem bools_cells {fuel : Nat} {cs : List Value} {x : DataW H × List MemPlace} (h : DataW.trod enc Tryz.prog w base spare held fuel 108 cs = some x) :
    ∃ (A : Option Addr) (bs : List Bool) (c : Nat), cs = [.slice A bs.length c] ∧ BoolsAt w A bs ∧ bs.length ≤ c ∧ bs.length ≤ maxLen := by
  rcases open_slice1 Tryz.underlying108 cellsBO h with ⟨h0, _⟩ | ⟨a, len, cap, m, k, V, D, Pl, hcs, _, hl, hm, hmm, _, hx⟩
  · exact ⟨none, [], 0, h0, fun h => absurd h (Nat.lt_irrefl _), Nat.le_refl _, Nat.zero_le _⟩
  · have hlm : len ≤ m := by rw [hmm]; split <;> omega
    obtain ⟨B, hB⟩ := choose_lt (n := len) (α := Bool) (p := fun i b => V i = .bool b) (fun i hi => by
      obtain ⟨b, h1, _⟩ := DataW.trod_bool Tryz.underlying4 (hx i (by omega)).2
      exact ⟨b, by simpa using h1⟩)
    have hlt : ((List.range len).map B).length = len := by simp
    refine ⟨some a, (List.range len).map B, cap, by rw [hlt]; exact hcs, fun _ => ⟨a, rfl, fun i t hi => ?_⟩, by omega, by omega⟩
    have hil := (List.getElem?_eq_some_iff.1 hi).1
    rw [hlt] at hil
    rw [List.getElem?_map, List.getElem?_range hil] at hi
    obtain rfl : B i = t := by simpa using hi
    rw [(hx i (by omega)).1, hB i hil]
end
end Go.Proofs.YtfjaibaidpbppaaGreatDoor

namespace Go.Proofs.YtfjaibaidpbppaaGreatDoor
open Go.RowKit

abbrev FewOut (w : World) (n : ByteArray) (ts : List TkI) (e : Ending) (w' : World) : Prop := (∃ b, e = .returned (.bool b) ∧ (b = true → FewI n ts)) ∧ Below w.heap.size w w'
def FewK (ts : List TkI) (k : Nat) : Prop := ∀ (i : Nat) t, i < k → ts[i]? = some t → t.after.length ≤ 20 ∧ t.name.size ≤ 100
theorem FewK.more {ts : List TkI} {k : Nat} {t : TkI} (h : FewK ts k) (ht : ts[k]? = some t) (h1 : t.after.length ≤ 20) (h2 : t.name.size ≤ 100) : FewK ts (k + 1) := by
  intro i u hi hu
  rcases Nat.lt_or_ge i k with hik | hik
  · exact h i u hik hu
  · obtain rfl : i = k := by omega
    rw [ht] at hu
    obtain rfl : t = u := by injection hu
    exact ⟨h1, h2⟩
theorem FewK.all {ts : List TkI} {k : Nat} (h : FewK ts k) (hk : ts.length ≤ k) : ∀ t ∈ ts, t.after.length ≤ 20 ∧ t.name.size ≤ 100 := fun t ht => by
  obtain ⟨i, hi, rfl⟩ := List.getElem_of_mem ht
  exact h i _ (by omega) (List.getElem?_eq_getElem hi)
section
variable {w : World} {A : Option Addr} {c : Nat} {n : ByteArray} {ts : List TkI}
set_option maxHeartbeats 1000000 in
set_option maxRecDepth 100000 in
theorem reffew_is (hA : TksI w A ts) (hL : ts.length ≤ 9223372036854775807) :
    Calls Tryz.prog 7 #[.agg #[.string n, .slice A ts.length c]] w fun e w' => FewOut w n ts e w' := by
  have b1 := (Below.refl w.heap.size w).alloc (Nat.le_refl _) (.cells #[.string n, .slice A ts.length c] 24)
  have HB0 := Lib.hid b1
  have HX := Lib.hid (made_at w (.cells #[.string n, .slice A ts.length c] 24))
  have HA := Lib.hid (hA.later b1)
  clear b1 hA
  go_enter Tryz.func7, Tryz.ntmps7
  go_upto_region 1 with fail
  generalize hW0 : (w.alloc (.cells #[.string n, .slice A ts.length c] 24)) = W0 at *
  clear hW0
  have x0 := cellH HX.out 0
  have x1 := cellH HX.out 1
  simp at x0 x1
  go_wp2_with fail
  go_loopw [3] (fun i wr => ∃ k : Nat, i = .int .i64 k ∧ k ≤ ts.length ∧ Hid (FewK ts k) ∧ wr = W0) (fun i _ => ts.length - (intOf i).toNat)
  case atStart => exact ⟨0, rfl, Nat.zero_le _, Lib.hid (fun i t hi => absurd hi (Nat.not_lt_zero _)), rfl⟩
  case round =>
    obtain ⟨k, rfl, hk, HD, rfl⟩ := hrel
    by_cases hlt : k < ts.length
    · obtain ⟨t, ht⟩ : ∃ t, ts[k]? = some t := ⟨_, List.getElem?_eq_getElem hlt⟩
      have HGT := Lib.hid ht
      obtain ⟨pa, B1, c1, rfl, p0, pj, _, _⟩ := HA.out.at_ ht
      have p1 := pj 1 _ rfl
      clear pj ht
      have hk0 : (0 : Int) ≤ (k : Int) := by omega
      have hkl : (k : Int) < (ts.length : Int) := by omega
      by_cases q1 : (20 : Int) < (t.after.length : Int)
      · go_wp2_with fail
        go_ret
        exact ⟨⟨false, rfl, fun h => by cases h⟩, HB0.out⟩
      by_cases q2 : (100 : Int) < (t.name.size : Int)
      · go_wp2_with fail
        go_ret
        exact ⟨⟨false, rfl, fun h => by cases h⟩, HB0.out⟩
      have HQ := Lib.hid (show t.after.length ≤ 20 ∧ t.name.size ≤ 100 by omega)
      go_wp2_with fail
      go_roundw
      case rel => exact ⟨k + 1, by go_num, by omega, Lib.hid (HD.out.more HGT.out HQ.out.1 HQ.out.2), by trivial⟩
      case measure => simp [intOf]; omega
    · have hlk : ¬ (k : Int) < (ts.length : Int) := by omega
      have HDL := Lib.hid (HD.out.all (by omega))
      by_cases q1 : (ts.length : Int) ≤ 20
      · by_cases q2 : (n.size : Int) ≤ 100
        · have HQ := Lib.hid (show ts.length ≤ 20 ∧ n.size ≤ 100 by omega)
          go_wp2_with fail
          go_ret
          exact ⟨⟨true, by simp, fun _ => ⟨HDL.out, HQ.out⟩⟩, HB0.out⟩
        · go_wp2_with fail
          go_ret
          exact ⟨⟨false, by simp, fun h => by cases h⟩, HB0.out⟩
      · go_wp2_with fail
        go_ret
        exact ⟨⟨false, by simp, fun h => by cases h⟩, HB0.out⟩
end
end Go.Proofs.YtfjaibaidpbppaaGreatDoor

namespace Go.Proofs.YtfjaibaidpbppaaGreatDoor
open Go.RowKit

/-- Which tasks are ready: not done, all that they come behind done. -/
def readyP (p : PiP) (ds : List Bool) : List Nat := (List.range p.tasks.length).filter fun i => !ds.getD i false && ((p.tasks.getD i ⟨⟨#[]⟩, [], 0, 0, 0, 0, 0⟩).after.all fun a => ds.getD a false)
theorem readyP_len (p : PiP) (ds : List Bool) : (readyP p ds).length ≤ p.tasks.length := Nat.le_trans (List.length_filter_le _ _) (by simp)
theorem getD_set (ds : List Bool) (m i : Nat) : (ds.set m true).getD i false = (decide (i = m ∧ m < ds.length) || ds.getD i false) := by
  rw [List.getD_eq_getElem?_getD, List.getElem?_set, List.getD_eq_getElem?_getD]
  by_cases h : m = i
  · subst h
    by_cases hm : m < ds.length
    · simp [hm]
    · simp [hm]
  · have h' : ¬ i = m := fun e => h e.symm
    simp [h, h']
/-- With one more done nothing else is less ready. -/
theorem readyP_more {p : PiP} {ds : List Bool} {m i : Nat} (hi : i ∈ readyP p ds) (hm : i ≠ m) : i ∈ readyP p (ds.set m true) := by
  unfold readyP at hi ⊢
  rw [List.mem_filter] at hi ⊢
  refine ⟨hi.1, ?_⟩
  have h := hi.2
  simp only [Bool.and_eq_true, Bool.not_eq_true', List.all_eq_true] at h ⊢
  refine ⟨by rw [getD_set, h.1]; simp [hm], fun a ha => by rw [getD_set, h.2 a ha]; simp⟩
theorem readyP_done {p : PiP} {ds : List Bool} {m : Nat} (hm : m < ds.length) : m ∉ readyP p (ds.set m true) := by
  unfold readyP
  rw [List.mem_filter]
  rintro ⟨_, h⟩
  simp only [Bool.and_eq_true, Bool.not_eq_true'] at h
  have h1 := h.1
  rw [getD_set] at h1
  simp [hm] at h1
/-- No task comes behind another one. -/
def flatP (ts : List TkP) : Bool := ts.all fun t => t.after.isEmpty
end Go.Proofs.YtfjaibaidpbppaaGreatDoor

namespace Go.Proofs.YtfjaibaidpbppaaGreatDoor
open Go.RowKit

theorem spot_none {w : World} {p : Addr} {v : Value} (h : w.cell? p = some v) : p.spot = none := by
  obtain ⟨b, o, s⟩ := p
  unfold World.cell? at h
  cases s with
  | none => rfl
  | some x => split at h <;> cases h
theorem NatsAt.flat {w : World} {A : Option Addr} {l : List Nat} (h : NatsAt w A l) (hl : 0 < l.length) : ∃ b o, A = some ⟨b, o, none⟩ ∧ ∀ j, j < (l.map Int.ofNat).length → w.cell? ⟨b, o + j, none⟩ = some (.int .i64 ((l.map Int.ofNat).getD j 0)) := by
  obtain ⟨ad, rfl, hc⟩ := h hl
  have h0 := hc 0 _ (List.getElem?_eq_getElem hl)
  have hs : ad.spot = none := by
    have := spot_none h0
    simpa [Addr.add] using this
  obtain ⟨b, o, s⟩ := ad
  obtain rfl : s = none := hs
  refine ⟨b, o, rfl, fun j hj => ?_⟩
  rw [List.length_map] at hj
  have h1 := cell_of (p := (⟨b, o, none⟩ : Addr).add j) (q := ⟨b, o + j, none⟩) (add_block _ _) (add_off _ _) rfl (hc j _ (List.getElem?_eq_getElem hj))
  rw [h1, List.getD_eq_getElem?_getD, List.getElem?_map, List.getElem?_eq_getElem hj]
  rfl
abbrev natV (l : List Nat) : List Value := l.map fun n => Value.int .i64 (n : Nat)
end Go.Proofs.YtfjaibaidpbppaaGreatDoor

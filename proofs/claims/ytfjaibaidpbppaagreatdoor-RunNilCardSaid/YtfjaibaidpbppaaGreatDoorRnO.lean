/-
  The calls of a run that come in as an argument, opened; what few answers. No conditions but how they lie.
-/
import Derived.Test.YtfjaibaidpbppaaGreatDoorRnP
import Derived.Test.YtfjaibaidpbppaaGreatDoorCodU
import Derived.Test.YtfjaibaidpbppaaGreatDoorRows
import Derived.ProofKit
import Derived.OpenShut
import Derived.ChangeOld
import Derived.Deep.Slices
import Derived.Deep.Grids
import Derived.Lib.SmallJoins
namespace Go.Proofs.YtfjaibaidpbppaaGreatDoor
open Go.ChangeShapes Go.WideShapes Go.ChangeAt Go.RowKit Go.Joins Go.Deep

structure ROp where
  k : Int
  n : Int
  a : Int
  b : Int
  c : Int
  s : ByteArray
def ropL (o : ROp) : List Value := [.int .i64 o.k, .int .i64 o.n, .int .i64 o.a, .int .i64 o.b, .int .i64 o.c, .string o.s]
/-- What is known of a call that comes in. -/
structure ROp.Ok (o : ROp) : Prop where
  a : -9223372036854775808 ≤ o.a ∧ o.a ≤ 9223372036854775807
  s : o.s.size ≤ maxLen
theorem cellsOp13 : Tryz.prog.cellsOf 33 = 6 := by kernel_rfl
theorem cellsI13 : Tryz.prog.cellsOf 3 = 1 := by kernel_rfl
theorem cellsS13 : Tryz.prog.cellsOf 9 = 1 := by kernel_rfl
section
variable {H : Type} {enc : TypeId × Value → H} {w : World} {base : Nat} {spare : Nat → Bool} {held : Bool}
set_option maxRecDepth 100000 in
/-- One call: its six cells. -/
theorem rop_cells {fuel : Nat} {cs : List Value} {x : DataW H × List MemPlace} (h : DataW.trod enc Tryz.prog w base spare held fuel 33 cs = some x) : ∃ o : ROp, cs = ropL o ∧ o.Ok := by
  obtain ⟨xs, n, _, _, hlen, hxl, hf⟩ := DataW.trod_struct Tryz.underlying33 h
  rw [cellsOp13] at hlen
  match cs, hlen with
  | [c0, c1, c2, c3, c4, c5], _ =>
    have h0 := hf 0 _ rfl
    have h1 := hf 1 _ rfl
    have h2 := hf 2 _ rfl
    have h3 := hf 3 _ rfl
    have h4 := hf 4 _ rfl
    have h5 := hf 5 _ rfl
    have hx0 : xs[0]? = some (xs[0]'(by rw [hxl]; decide)) := List.getElem?_eq_getElem _
    have hx1 : xs[1]? = some (xs[1]'(by rw [hxl]; decide)) := List.getElem?_eq_getElem _
    have hx2 : xs[2]? = some (xs[2]'(by rw [hxl]; decide)) := List.getElem?_eq_getElem _
    have hx3 : xs[3]? = some (xs[3]'(by rw [hxl]; decide)) := List.getElem?_eq_getElem _
    have hx4 : xs[4]? = some (xs[4]'(by rw [hxl]; decide)) := List.getElem?_eq_getElem _
    have hx5 : xs[5]? = some (xs[5]'(by rw [hxl]; decide)) := List.getElem?_eq_getElem _
    rw [hx0] at h0
    rw [hx1] at h1
    rw [hx2] at h2
    rw [hx3] at h3
    rw [hx4] at h4
    rw [hx5] at h5
    simp only [List.getElem_toArray, List.getElem_cons_zero, List.getElem_cons_succ] at h0 h1 h2 h3 h4 h5
    simp only [cellsI13, cellsS13, List.drop_zero, List.take_succ_cons, List.take_zero, List.drop_succ_cons] at h0 h1 h2 h3 h4 h5
    obtain ⟨v0, e0, _, w0⟩ := DataW.trod_int Tryz.underlying3 h0
    obtain ⟨v1, e1, _, w1⟩ := DataW.trod_int Tryz.underlying3 h1
    obtain ⟨v2, e2, _, w2⟩ := DataW.trod_int Tryz.underlying3 h2
    obtain ⟨v3, e3, _, w3⟩ := DataW.trod_int Tryz.underlying3 h3
    obtain ⟨v4, e4, _, w4⟩ := DataW.trod_int Tryz.underlying3 h4
    obtain ⟨s, e5, _, w5⟩ := DataW.trod_string Tryz.underlying9 h5
    injection e0 with e0
    injection e1 with e1
    injection e2 with e2
    injection e3 with e3
    injection e4 with e4
    injection e5 with e5
    exact ⟨⟨v0, v1, v2, v3, v4, s⟩, by unfold ropL; rw [e0, e1, e2, e3, e4, e5], ⟨bounds_i64 w2, w5⟩⟩
set_option maxRecDepth 100000 in
theorem rop_open {r : Reach} {b0 : Nat} {v : Value} {d : DataW H} {p : List MemPlace} (hv : Value.okWide Tryz.prog w r b0 33 v) (h : DataW.Trod enc Tryz.prog w base spare held 33 v d p) : ∃ o : ROp, v = .agg (ropL o).toArray ∧ o.Ok := by
  obtain ⟨cs, rfl, hsz⟩ := okWide_struct Tryz.underlying33 hv
  obtain ⟨fuel, hf0⟩ := h
  obtain ⟨o, e, ho⟩ := rop_cells hf0
  refine ⟨o, ?_, ho⟩
  obtain ⟨l⟩ := cs
  simp [Value.cells] at e
  rw [e]
/-- The calls op stand at A. -/
def RopsAt (w : World) (A : Option Addr) (n : Nat) (op : Nat → ROp) : Prop :=
  0 < n → ∃ ad, A = some ad ∧ ∀ i, i < n → w.cell? (ad.add (i * 6)) = some (.int .i64 (op i).k) ∧ w.cell? ⟨(ad.add (i * 6)).block, (ad.add (i * 6)).off + 1, none⟩ = some (.int .i64 (op i).n) ∧
    w.cell? ⟨(ad.add (i * 6)).block, (ad.add (i * 6)).off + 1 + 1, none⟩ = some (.int .i64 (op i).a) ∧ w.cell? ⟨(ad.add (i * 6)).block, (ad.add (i * 6)).off + 1 + 1 + 1, none⟩ = some (.int .i64 (op i).b) ∧
    w.cell? ⟨(ad.add (i * 6)).block, (ad.add (i * 6)).off + 1 + 1 + 1 + 1, none⟩ = some (.int .i64 (op i).c) ∧ w.cell? ⟨(ad.add (i * 6)).block, (ad.add (i * 6)).off + 1 + 1 + 1 + 1 + 1, none⟩ = some (.string (op i).s)
theorem RopsAt.later {w w' : World} {A : Option Addr} {n : Nat} {op : Nat → ROp} (h : RopsAt w A n op) (hb : Below w.heap.size w w') : RopsAt w' A n op := fun hn => by
  obtain ⟨ad, e, hc⟩ := h hn
  refine ⟨ad, e, fun i hi => ?_⟩
  obtain ⟨h0, h1, h2, h3, h4, h5⟩ := hc i hi
  exact ⟨cell_later hb h0, cell_later hb h1, cell_later hb h2, cell_later hb h3, cell_later hb h4, cell_later hb h5⟩
set_option maxRecDepth 100000 in
theorem rops_open {fuel : Nat} {A : Option Addr} {n c : Nat} {x : DataW H × List MemPlace} (h : DataW.trod enc Tryz.prog w base spare held fuel 25 [.slice A n c] = some x) :
    ∃ op : Nat → ROp, n ≤ 9223372036854775807 ∧ RopsAt w A n op ∧ ∀ i, i < n → (op i).Ok := by
  rcases open_slice Tryz.underlying25 h with ⟨h0, _⟩ | ⟨a, len, cap, m, k, D, Pl, hcs, _, hl, hcap, hmm, _, hi⟩
  · injection h0 with h0
    injection h0 with hA hn hc
    subst hA hn hc
    exact ⟨fun _ => ⟨0, 0, 0, 0, 0, ⟨#[]⟩⟩, by omega, fun h => absurd h (by omega), fun i hi => absurd hi (by omega)⟩
  · injection hcs with hcs
    injection hcs with hA hn hc
    subst hA hn hc
    have hm : n ≤ m := by rw [hmm]; split <;> omega
    have each : ∀ i, i < n → ∃ o : ROp, (∀ j (hj : j < 6), w.cell? (a.add (i * 6 + j)) = some ((ropL o)[j]'hj)) ∧ o.Ok := fun i hin => by
      obtain ⟨cs', hc', ht'⟩ := hi i (by omega)
      obtain ⟨o, rfl, ho⟩ := rop_cells ht'
      rw [cellsOp13] at hc'
      obtain ⟨_, _, hat⟩ := World.cells?_some hc'
      refine ⟨o, fun j hj => ?_, ho⟩
      have := hat j hj
      rw [Go.Deep.add_add] at this
      rw [this]
      exact List.getElem?_eq_getElem _
    refine ⟨fun i => ⟨numAt w (a.add (i * 6)), numAt w (a.add (i * 6 + 1)), numAt w (a.add (i * 6 + 2)), numAt w (a.add (i * 6 + 3)), numAt w (a.add (i * 6 + 4)), txtAt w (a.add (i * 6 + 5))⟩, by unfold maxLen at hcap; omega, fun _ => ⟨a, rfl, fun i hin => ?_⟩, fun i hin => ?_⟩
    · obtain ⟨o, hat, ho⟩ := each i hin
      have h0 := hat 0 (by omega)
      have h1 := hat 1 (by omega)
      have h2 := hat 2 (by omega)
      have h3 := hat 3 (by omega)
      have h4 := hat 4 (by omega)
      have h5 := hat 5 (by omega)
      simp only [ropL, List.getElem_cons_zero, List.getElem_cons_succ, Nat.add_zero] at h0 h1 h2 h3 h4 h5
      have e1 := addr_at a (i * 6) 0
      have e2 := addr_at a (i * 6) 1
      have e3 := addr_at a (i * 6) 2
      have e4 := addr_at a (i * 6) 3
      have e5 := addr_at a (i * 6) 4
      simp only [Nat.add_assoc, Nat.reduceAdd] at e1 e2 e3 e4 e5 ⊢
      rw [e1, e2, e3, e4, e5]
      simp only [numAt, txtAt, h0, h1, h2, h3, h4, h5]
      exact ⟨trivial, trivial, trivial, trivial, trivial, trivial⟩
    · obtain ⟨o, hat, ho⟩ := each i hin
      have h0 := hat 0 (by omega)
      have h1 := hat 1 (by omega)
      have h2 := hat 2 (by omega)
      have h3 := hat 3 (by omega)
      have h4 := hat 4 (by omega)
      have h5 := hat 5 (by omega)
      simp only [ropL, List.getElem_cons_zero, List.getElem_cons_succ, Nat.add_zero] at h0 h1 h2 h3 h4 h5
      simp only [numAt, txtAt, h0, h1, h2, h3, h4, h5]
      exact ho
end
section
variable {w : World} {A : Option Addr} {n c : Nat} {op : Nat → ROp}
/-- A call that may be played. -/
def ropOk (o : ROp) : Prop := o.s.size ≤ 100 ∧ (0 ≤ o.n ∧ o.n ≤ 10000) ∧ (0 ≤ o.b ∧ o.b ≤ 10000) ∧ (0 ≤ o.c ∧ o.c ≤ 10000)
def ropsOk (n : Nat) (op : Nat → ROp) : Prop := n ≤ 150 ∧ ∀ i, i < n → ropOk (op i)
def RopE (n : Nat) (op : Nat → ROp) (e : Ending) : Prop := ∃ b, e = .returned (.bool b) ∧ (b = true → ropsOk n op)
set_option maxHeartbeats 4000000 in
set_option maxRecDepth 100000 in
theorem rfew_is (hA : RopsAt w A n op) (hn : n ≤ 9223372036854775807) : Calls Tryz.prog 8 #[.slice A n c] w fun e w' => RopE n op e ∧ Below w.heap.size w w' := by
  have HA := Lib.hid hA
  clear hA
  go_enter Tryz.func8, Tryz.ntmps8
  go_wp2_with fail
  go_loopw [7] (fun i wr => ∃ k : Nat, k ≤ n ∧ i = .int .i64 k ∧ Hid (∀ j, j < k → ropOk (op j)) ∧ Below w.heap.size w wr) (fun i _ => n - (intOf i).toNat)
  case atStart => exact ⟨0, Nat.zero_le _, rfl, Lib.hid (fun j hj => absurd hj (by omega)), Below.refl _ _⟩
  case round =>
    obtain ⟨k, hk, rfl, HF, hb⟩ := hrel
    have HB := Lib.hid hb
    clear hb
    by_cases hlt : k < n
    · obtain ⟨ad, e, hcell⟩ := HA.out (by omega)
      subst e
      obtain ⟨y0, y1, y2, y3, y4, y5⟩ := hcell k hlt
      have x0 := cell_later HB.out y0
      have x1 := cell_later HB.out y1
      have x2 := cell_later HB.out y2
      have x3 := cell_later HB.out y3
      have x4 := cell_later HB.out y4
      have x5 := cell_later HB.out y5
      clear hcell y0 y1 y2 y3 y4 y5
      have HB2 := Lib.hid (HB.out.alloc HB.out.size (.cells (ropL (op k)).toArray 33))
      by_cases hok : ropOk (op k)
      · have HF2 := Lib.hid (show ∀ j, j < k + 1 → ropOk (op j) from fun j hj => by
          by_cases e : j = k
          · subst e; exact hok
          · exact HF.out j (by omega))
        clear HF
        generalize hq : op k = q at x0 x1 x2 x3 x4 x5 hok HB2
        clear hq
        obtain ⟨q0, q1, q2, q3, q4, q5⟩ := q
        obtain ⟨h1, ⟨h2, h3⟩, ⟨h4, h5⟩, h6, h7⟩ := hok
        simp only at x0 x1 x2 x3 x4 x5 h1 h2 h3 h4 h5 h6 h7
        have g1 : ¬ (100 : Int) < (q5.size : Int) := by omega
        go_wp2_with fail
        go_roundw
        case rel => exact ⟨k + 1, by omega, by go_num, HF2, HB2.out⟩
        case measure => simp [intOf]; omega
      · generalize op k = q at *
        obtain ⟨q0, q1, q2, q3, q4, q5⟩ := q
        simp only at x0 x1 x2 x3 x4 x5
        have hok' : ¬ (q5.size ≤ 100 ∧ (0 ≤ q1 ∧ q1 ≤ 10000) ∧ (0 ≤ q3 ∧ q3 ≤ 10000) ∧ (0 ≤ q4 ∧ q4 ≤ 10000)) := hok
        clear hok
        by_cases g1 : (100 : Int) < (q5.size : Int)
        · go_wp2_with fail
          go_ret
          exact ⟨⟨_, rfl, fun h => by cases h⟩, HB2.out⟩
        by_cases g2 : q1 < 0
        · go_wp2_with fail
          go_ret
          exact ⟨⟨_, rfl, fun h => by cases h⟩, HB2.out⟩
        by_cases g3 : 10000 < q1
        · go_wp2_with fail
          go_ret
          exact ⟨⟨_, rfl, fun h => by cases h⟩, HB2.out⟩
        by_cases g4 : q3 < 0
        · go_wp2_with fail
          go_ret
          exact ⟨⟨_, rfl, fun h => by cases h⟩, HB2.out⟩
        by_cases g5 : 10000 < q3
        · go_wp2_with fail
          go_ret
          exact ⟨⟨_, rfl, fun h => by cases h⟩, HB2.out⟩
        by_cases g6 : q4 < 0
        · go_wp2_with fail
          go_ret
          exact ⟨⟨_, rfl, fun h => by cases h⟩, HB2.out⟩
        by_cases g7 : 10000 < q4
        · go_wp2_with fail
          go_ret
          exact ⟨⟨_, rfl, fun h => by cases h⟩, HB2.out⟩
        exact absurd ⟨by omega, ⟨by omega, by omega⟩, ⟨by omega, by omega⟩, by omega, by omega⟩ hok'
    · obtain rfl : k = n := by omega
      by_cases h60 : k ≤ 150
      · have hyl : (k : Int) ≤ 150 := by omega
        go_wp2_with fail
        go_ret
        exact ⟨⟨_, rfl, fun _ => ⟨h60, HF.out⟩⟩, HB.out⟩
      · have hnl : decide ((k : Int) ≤ 150) = false := decide_eq_false (by omega)
        go_wp2_with fail
        go_ret
        exact ⟨⟨false, by rw [← hnl]; rfl, fun h => by cases h⟩, HB.out⟩
end
end Go.Proofs.YtfjaibaidpbppaaGreatDoor

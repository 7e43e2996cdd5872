/-
  The laws' calls (package lockagelaw06) that come in as an argument, opened; what few answers of them. No conditions but how they lie.
-/
import Derived.Test.YtnajbcbdncmbbaaDoorCodD
import Derived.ProofKit
import Derived.OpenShut
import Derived.ChangeOld
import Derived.Deep.Slices
import Derived.SliceStrings
import Derived.Lib.SmallJoins
namespace Go.Proofs.YtnajbcbdncmbbaaDoor
open Go.ChangeShapes Go.WideShapes Go.ChangeAt Go.RowKit Go.Joins Go.Deep

/-- One call of the laws. -/
structure COp where
  k : Int
  n : Int
  lo : Int
  hi : Int
  s : ByteArray
  a : Int
  b : Int
/-- What is known of one call that comes in. -/
structure COp.Ok (o : COp) : Prop where
  k0 : -9223372036854775808 ≤ o.k
  k1 : o.k ≤ 9223372036854775807
  n0 : -9223372036854775808 ≤ o.n
  n1 : o.n ≤ 9223372036854775807
  lo0 : -9223372036854775808 ≤ o.lo
  lo1 : o.lo ≤ 9223372036854775807
  hi0 : -9223372036854775808 ≤ o.hi
  hi1 : o.hi ≤ 9223372036854775807
  s1 : o.s.size ≤ maxLen
  a0 : -9223372036854775808 ≤ o.a
  a1 : o.a ≤ 9223372036854775807
  b0 : 0 ≤ o.b
  b1 : o.b ≤ 65535
/-- The cells of a call. -/
def copL (o : COp) : List Value := [.int .i64 o.k, .int .i64 o.n, .int .i64 o.lo, .int .i64 o.hi, .string o.s, .int .i64 o.a, .int .u16 o.b]

section
variable {H : Type} {enc : TypeId × Value → H} {w : World} {base : Nat} {spare : Nat → Bool} {held : Bool}

theorem cellsOp : Tryd.prog.cellsOf 32 = 7 := by kernel_rfl
theorem cellsLab : Tryd.prog.cellsOf 30 = 2 := by kernel_rfl
theorem cellsI : Tryd.prog.cellsOf 3 = 1 := by kernel_rfl
theorem cellsH : Tryd.prog.cellsOf 28 = 1 := by kernel_rfl
theorem cellsS : Tryd.prog.cellsOf 9 = 1 := by kernel_rfl

set_option maxRecDepth 100000 in
theorem lab_open {fuel : Nat} {cs : List Value} {x : DataW H × List MemPlace} (h : DataW.trod enc Tryd.prog w base spare held fuel 30 cs = some x) :
    ∃ a b : Int, cs = [.int .i64 a, .int .u16 b] ∧ (-9223372036854775808 ≤ a ∧ a ≤ 9223372036854775807) ∧ 0 ≤ b ∧ b ≤ 65535 := by
  obtain ⟨xs, n, _, _, hlen, hxl, hf⟩ := DataW.trod_struct Tryd.underlying30 h
  rw [cellsLab] at hlen
  match cs, hlen with
  | [c0, c1], _ =>
    have h0 := hf 0 _ rfl
    have h1 := hf 1 _ rfl
    have hx0 : xs[0]? = some (xs[0]'(by rw [hxl]; decide)) := List.getElem?_eq_getElem _
    have hx1 : xs[1]? = some (xs[1]'(by rw [hxl]; decide)) := List.getElem?_eq_getElem _
    rw [hx0] at h0
    rw [hx1] at h1
    simp only [List.getElem_toArray, List.getElem_cons_zero, List.getElem_cons_succ] at h0 h1
    simp only [cellsI, cellsH, List.drop_zero, List.take_succ_cons, List.take_zero, List.drop_succ_cons] at h0 h1
    obtain ⟨a, e0, _, ha⟩ := DataW.trod_int Tryd.underlying3 h0
    obtain ⟨b, e1, _, hb⟩ := DataW.trod_int Tryd.underlying28 h1
    injection e0 with e0
    injection e1 with e1
    exact ⟨a, b, by rw [e0, e1], bounds_i64 ha, bounds_u16 hb⟩

set_option maxRecDepth 100000 in
/-- One call: its seven cells. -/
theorem cop_cells {fuel : Nat} {cs : List Value} {x : DataW H × List MemPlace} (h : DataW.trod enc Tryd.prog w base spare held fuel 32 cs = some x) : ∃ o : COp, cs = copL o ∧ o.Ok := by
  obtain ⟨xs, n, _, _, hlen, hxl, hf⟩ := DataW.trod_struct Tryd.underlying32 h
  rw [cellsOp] at hlen
  match cs, hlen with
  | [c0, c1, c2, c3, c4, c5, c6], _ =>
    have h0 := hf 0 _ rfl
    have h1 := hf 1 _ rfl
    have h2 := hf 2 _ rfl
    have h3 := hf 3 _ rfl
    have h4 := hf 4 _ rfl
    have h5 := hf 5 _ rfl
    have hx0 : xs[0]? = some (xs[0]'(by rw [hxl]; decide)) := List.getElem?_eq_getElem _
    have hx1 : xs[1]? = some (xs[1]'(by rw [hxl]; decide)) := List.getElem?_eq_getElem _
    have hx2 : xs[2]? = some (xs[2]'(by rw [hxl]; decide)) := List.getElem?_eq_getElem _
    have hx3 : xs[3]? = some (xs[3]'(by rw [hxl]; decide)) := List.getElem?_eq_getElem _
    have hx4 : xs[4]? = some (xs[4]'(by rw [hxl]; decide)) := List.getElem?_eq_getElem _
    have hx5 : xs[5]? = some (xs[5]'(by rw [hxl]; decide)) := List.getElem?_eq_getElem _
    rw [hx0] at h0
    rw [hx1] at h1
    rw [hx2] at h2
    rw [hx3] at h3
    rw [hx4] at h4
    rw [hx5] at h5
    simp only [List.getElem_toArray, List.getElem_cons_zero, List.getElem_cons_succ] at h0 h1 h2 h3 h4 h5
    simp only [cellsI, cellsS, cellsLab, List.drop_zero, List.take_succ_cons, List.take_zero, List.drop_succ_cons] at h0 h1 h2 h3 h4 h5
    obtain ⟨v0, e0, _, w0⟩ := DataW.trod_int Tryd.underlying3 h0
    obtain ⟨v1, e1, _, w1⟩ := DataW.trod_int Tryd.underlying3 h1
    obtain ⟨v2, e2, _, w2⟩ := DataW.trod_int Tryd.underlying3 h2
    obtain ⟨v3, e3, _, w3⟩ := DataW.trod_int Tryd.underlying3 h3
    obtain ⟨s, e4, _, w4⟩ := DataW.trod_string Tryd.underlying9 h4
    obtain ⟨a, b, e5, w5, w6⟩ := lab_open h5
    injection e0 with e0
    injection e1 with e1
    injection e2 with e2
    injection e3 with e3
    injection e4 with e4
    injection e5 with e5 e6
    injection e6 with e6
    exact ⟨⟨v0, v1, v2, v3, s, a, b⟩, by unfold copL; rw [e0, e1, e2, e3, e4, e5, e6], ⟨(bounds_i64 w0).1, (bounds_i64 w0).2, (bounds_i64 w1).1, (bounds_i64 w1).2, (bounds_i64 w2).1, (bounds_i64 w2).2, (bounds_i64 w3).1, (bounds_i64 w3).2, w4, w5.1, w5.2, w6.1, w6.2⟩⟩
theorem cop_open {r : Reach} {b0 : Nat} {v : Value} {d : DataW H} {p : List MemPlace} (hv : Value.okWide Tryd.prog w r b0 32 v) (h : DataW.Trod enc Tryd.prog w base spare held 32 v d p) : ∃ o : COp, v = .agg (copL o).toArray ∧ o.Ok := by
  obtain ⟨cs, rfl, hsz⟩ := okWide_struct Tryd.underlying32 hv
  obtain ⟨fuel, hf0⟩ := h
  obtain ⟨o, e, ho⟩ := cop_cells hf0
  refine ⟨o, ?_, ho⟩
  obtain ⟨l⟩ := cs
  simp [Value.cells] at e
  rw [e]

/-- n calls stand at A. -/
def CopsAt (w : World) (A : Option Addr) (n : Nat) (op : Nat → COp) : Prop :=
  0 < n → ∃ ad, A = some ad ∧ ∀ i, i < n → w.cell? (ad.add (i * 7)) = some (.int .i64 (op i).k) ∧ w.cell? ⟨(ad.add (i * 7)).block, (ad.add (i * 7)).off + 1, none⟩ = some (.int .i64 (op i).n) ∧
    w.cell? ⟨(ad.add (i * 7)).block, (ad.add (i * 7)).off + 1 + 1, none⟩ = some (.int .i64 (op i).lo) ∧ w.cell? ⟨(ad.add (i * 7)).block, (ad.add (i * 7)).off + 1 + 1 + 1, none⟩ = some (.int .i64 (op i).hi) ∧
    w.cell? ⟨(ad.add (i * 7)).block, (ad.add (i * 7)).off + 1 + 1 + 1 + 1, none⟩ = some (.string (op i).s) ∧ w.cell? ⟨(ad.add (i * 7)).block, (ad.add (i * 7)).off + 1 + 1 + 1 + 1 + 1, none⟩ = some (.int .i64 (op i).a) ∧
    w.cell? ⟨(ad.add (i * 7)).block, (ad.add (i * 7)).off + 1 + 1 + 1 + 1 + 1 + 1, none⟩ = some (.int .u16 (op i).b)
theorem CopsAt.later {w w' : World} {A : Option Addr} {n : Nat} {op : Nat → COp} (h : CopsAt w A n op) (hb : Below w.heap.size w w') : CopsAt w' A n op := fun hn => by
  obtain ⟨ad, e, hc⟩ := h hn
  refine ⟨ad, e, fun i hi => ?_⟩
  obtain ⟨h0, h1, h2, h3, h4, h5, h6⟩ := hc i hi
  exact ⟨cell_later hb h0, cell_later hb h1, cell_later hb h2, cell_later hb h3, cell_later hb h4, cell_later hb h5, cell_later hb h6⟩
theorem addr_at (ad : Addr) (k j : Nat) : (⟨(ad.add k).block, (ad.add k).off + (j + 1), none⟩ : Addr) = ad.add (k + (j + 1)) := by
  unfold Addr.add
  by_cases hk : k = 0 <;> simp [hk, Nat.add_assoc]
def numAt (w : World) (a : Addr) : Int := match w.cell? a with | some (.int _ z) => z | _ => 0
def txtAt (w : World) (a : Addr) : ByteArray := match w.cell? a with | some (.string s) => s | _ => ⟨#[]⟩
theorem cops_open {fuel : Nat} {A : Option Addr} {n c : Nat} {x : DataW H × List MemPlace} (h : DataW.trod enc Tryd.prog w base spare held fuel 22 [.slice A n c] = some x) :
    ∃ op : Nat → COp, n ≤ 9223372036854775807 ∧ CopsAt w A n op ∧ ∀ i, i < n → (op i).Ok := by
  rcases open_slice Tryd.underlying22 h with ⟨h0, _⟩ | ⟨a, len, cap, m, k, D, Pl, hcs, _, hl, hcap, hmm, _, hi⟩
  · injection h0 with h0
    injection h0 with hA hn hc
    subst hA hn hc
    exact ⟨fun _ => ⟨0, 0, 0, 0, ⟨#[]⟩, 0, 0⟩, by omega, fun h => absurd h (by omega), fun i hi => absurd hi (by omega)⟩
  · injection hcs with hcs
    injection hcs with hA hn hc
    subst hA hn hc
    have hm : n ≤ m := by rw [hmm]; split <;> omega
    have each : ∀ i, i < n → ∃ o : COp, (∀ j (hj : j < 7), w.cell? (a.add (i * 7 + j)) = some ((copL o)[j]'hj)) ∧ o.Ok := fun i hin => by
      obtain ⟨cs', hc', ht'⟩ := hi i (by omega)
      obtain ⟨o, rfl, ho⟩ := cop_cells ht'
      rw [cellsOp] at hc'
      obtain ⟨_, _, hat⟩ := World.cells?_some hc'
      refine ⟨o, fun j hj => ?_, ho⟩
      have := hat j hj
      rw [Go.Deep.add_add] at this
      rw [this]
      exact List.getElem?_eq_getElem _
    refine ⟨fun i => ⟨numAt w (a.add (i * 7)), numAt w (a.add (i * 7 + 1)), numAt w (a.add (i * 7 + 2)), numAt w (a.add (i * 7 + 3)), txtAt w (a.add (i * 7 + 4)), numAt w (a.add (i * 7 + 5)), numAt w (a.add (i * 7 + 6))⟩, by unfold maxLen at hcap; omega, fun _ => ⟨a, rfl, fun i hin => ?_⟩, fun i hin => ?_⟩
    · obtain ⟨o, hat, ho⟩ := each i hin
      have h0 := hat 0 (by omega)
      have h1 := hat 1 (by omega)
      have h2 := hat 2 (by omega)
      have h3 := hat 3 (by omega)
      have h4 := hat 4 (by omega)
      have h5 := hat 5 (by omega)
      have h6 := hat 6 (by omega)
      simp only [copL, List.getElem_cons_zero, List.getElem_cons_succ, Nat.add_zero] at h0 h1 h2 h3 h4 h5 h6
      have e1 := addr_at a (i * 7) 0
      have e2 := addr_at a (i * 7) 1
      have e3 := addr_at a (i * 7) 2
      have e4 := addr_at a (i * 7) 3
      have e5 := addr_at a (i * 7) 4
      have e6 := addr_at a (i * 7) 5
      simp only [Nat.add_assoc, Nat.reduceAdd] at e1 e2 e3 e4 e5 e6 ⊢
      rw [e1, e2, e3, e4, e5, e6]
      simp only [numAt, txtAt, h0, h1, h2, h3, h4, h5, h6]
      exact ⟨trivial, trivial, trivial, trivial, trivial, trivial, trivial⟩
    · obtain ⟨o, hat, ho⟩ := each i hin
      have h0 := hat 0 (by omega)
      have h1 := hat 1 (by omega)
      have h2 := hat 2 (by omega)
      have h3 := hat 3 (by omega)
      have h4 := hat 4 (by omega)
      have h5 := hat 5 (by omega)
      have h6 := hat 6 (by omega)
      simp only [copL, List.getElem_cons_zero, List.getElem_cons_succ, Nat.add_zero] at h0 h1 h2 h3 h4 h5 h6
      simp only [numAt, txtAt, h0, h1, h2, h3, h4, h5, h6]
      exact ho
end

section
variable {w : World} {A : Option Addr} {n c : Nat} {op : Nat → COp}
/-- Few calls, with texts that aren't long. -/
def fewOk (n : Nat) (op : Nat → COp) : Prop := n ≤ 100 ∧ ∀ i, i < n → (op i).s.size ≤ 300
/-- What few answers. -/
def FewE (n : Nat) (op : Nat → COp) (e : Ending) : Prop := ∃ b, e = .returned (.bool b) ∧ (b = true → fewOk n op)
set_option maxHeartbeats 1000000 in
set_option maxRecDepth 100000 in
theorem few_is (hA : CopsAt w A n op) (hn : n ≤ 9223372036854775807) : Calls Tryd.prog 9 #[.slice A n c] w fun e w' => FewE n op e ∧ Below w.heap.size w w' := by
  have HA := Lib.hid hA
  clear hA
  go_enter Tryd.func9, Tryd.ntmps9
  go_wp2_with fail
  go_loopw [7] (fun i wr => ∃ k : Nat, k ≤ n ∧ i = .int .i64 k ∧ (∀ j, j < k → (op j).s.size ≤ 300) ∧ Below w.heap.size w wr) (fun i _ => n - (intOf i).toNat)
  case atStart => exact ⟨0, Nat.zero_le _, rfl, fun j hj => absurd hj (by omega), Below.refl _ _⟩
  case round =>
    obtain ⟨k, hk, rfl, hfew, hb⟩ := hrel
    have HF := Lib.hid hfew
    have HB := Lib.hid hb
    clear hfew hb
    by_cases hlt : k < n
    · obtain ⟨ad, e, hcell⟩ := HA.out (by omega)
      subst e
      obtain ⟨y0, y1, y2, y3, y4, y5, y6⟩ := hcell k hlt
      have x0 := cell_later HB.out y0
      have x1 := cell_later HB.out y1
      have x2 := cell_later HB.out y2
      have x3 := cell_later HB.out y3
      have x4 := cell_later HB.out y4
      have x5 := cell_later HB.out y5
      have x6 := cell_later HB.out y6
      clear hcell y0 y1 y2 y3 y4 y5 y6
      have HB2 := Lib.hid (HB.out.alloc HB.out.size (.cells (copL (op k)).toArray 32))
      by_cases h1 : 300 < (op k).s.size
      · generalize op k = q at *
        obtain ⟨q0, q1, q2, q3, q4, q5, q6⟩ := q
        simp only at x0 x1 x2 x3 x4 x5 x6 h1
        go_wp2_with fail
        go_ret
        exact ⟨⟨_, rfl, fun h => by cases h⟩, HB2.out⟩
      · have HF2 := Lib.hid (show ∀ j, j < k + 1 → (op j).s.size ≤ 300 from fun j hj => by
          by_cases e : j = k
          · subst e; omega
          · exact HF.out j (by omega))
        clear HF
        generalize hq : op k = q at x0 x1 x2 x3 x4 x5 x6 h1 HB2
        clear hq
        obtain ⟨q0, q1, q2, q3, q4, q5, q6⟩ := q
        simp only at x0 x1 x2 x3 x4 x5 x6 h1
        go_wp2_with fail
        go_roundw
        case rel => exact ⟨k + 1, by omega, by go_num, HF2.out, HB2.out⟩
        case measure => simp [intOf]; omega
    · obtain rfl : k = n := by omega
      by_cases h60 : k ≤ 100
      · go_wp2_with fail
        go_ret
        exact ⟨⟨_, rfl, fun _ => ⟨h60, HF.out⟩⟩, HB.out⟩
      · go_wp2_with fail
        go_ret
        exact ⟨⟨_, rfl, fun h => absurd h (by simp; omega)⟩, HB.out⟩
end
end Go.Proofs.YtnajbcbdncmbbaaDoor

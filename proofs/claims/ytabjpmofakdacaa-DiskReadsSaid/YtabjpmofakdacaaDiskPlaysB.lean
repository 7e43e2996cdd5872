/-
  The law DiskPlays, walked for every input; lists of calls and of texts that come in as arguments, opened. No conditions.
-/
import Derived.Test.YtabjpmofakdacaaDiskPlaysA
import Derived.Test.YtabjpmofakdacaaDiskR
import Derived.ProofKit
import Derived.OpenShut
import Derived.ChangeOld
import Derived.Deep.Slices
import Derived.SliceStrings
import Derived.Lib.SmallJoins
namespace Go.Proofs.Ytabjpmofakdacaa
open Go.ChangeShapes Go.WideShapes Go.ChangeAt Go.RowKit Go.Joins Go.Deep

section
variable {H : Type} {enc : TypeId × Value → H} {w : World} {base : Nat} {spare : Nat → Bool} {held : Bool}

theorem cellsOp : Try.prog.cellsOf 34 = 6 := by kernel_rfl
theorem cellsCut : Try.prog.cellsOf 32 = 2 := by kernel_rfl
theorem cellsI : Try.prog.cellsOf 3 = 1 := by kernel_rfl
theorem cellsU : Try.prog.cellsOf 30 = 1 := by kernel_rfl
theorem cellsS : Try.prog.cellsOf 9 = 1 := by kernel_rfl
theorem cellsB : Try.prog.cellsOf 4 = 1 := by kernel_rfl

/-- What a cell holds. -/
def numAt (w : World) (a : Addr) : Int := match w.cell? a with | some (.int _ z) => z | _ => 0
def txtAt (w : World) (a : Addr) : ByteArray := match w.cell? a with | some (.string s) => s | _ => ⟨#[]⟩
def flagAt (w : World) (a : Addr) : Bool := match w.cell? a with | some (.bool s) => s | _ => false

theorem cut_open {fuel : Nat} {cs : List Value} {x : DataW H × List MemPlace} (h : DataW.trod enc Try.prog w base spare held fuel 32 cs = some x) :
    ∃ a b : Int, cs = [.int .i64 a, .int .u64 b] ∧ a ≤ 9223372036854775807 ∧ 0 ≤ b ∧ b < 18446744073709551616 := by
  obtain ⟨xs, n, _, _, hlen, hxl, hf⟩ := DataW.trod_struct Try.underlying32 h
  rw [cellsCut] at hlen
  match cs, hlen with
  | [c0, c1], _ =>
    have h0 := hf 0 _ rfl
    have h1 := hf 1 _ rfl
    have hx0 : xs[0]? = some (xs[0]'(by rw [hxl]; decide)) := List.getElem?_eq_getElem _
    have hx1 : xs[1]? = some (xs[1]'(by rw [hxl]; decide)) := List.getElem?_eq_getElem _
    rw [hx0] at h0
    rw [hx1] at h1
    simp only [List.getElem_toArray, List.getElem_cons_zero, List.getElem_cons_succ] at h0 h1
    simp only [cellsI, cellsU, List.drop_zero, List.take_succ_cons, List.take_zero, List.drop_succ_cons] at h0 h1
    obtain ⟨a, e0, _, ha⟩ := DataW.trod_int Try.underlying3 h0
    obtain ⟨b, e1, _, hb⟩ := DataW.trod_int Try.underlying30 h1
    injection e0 with e0
    injection e1 with e1
    have b0 := bounds_i64 ha
    have b1 := bounds_u64 hb
    exact ⟨a, b, by rw [e0, e1], b0.2, b1.1, by omega⟩

/-- One call: its six cells. -/
theorem op_open {fuel : Nat} {cs : List Value} {x : DataW H × List MemPlace} (h : DataW.trod enc Try.prog w base spare held fuel 34 cs = some x) :
    ∃ (k p : Int) (s : ByteArray) (r : Bool) (a b : Int), cs = [.int .i64 k, .int .i64 p, .string s, .bool r, .int .i64 a, .int .u64 b] ∧ -9223372036854775808 ≤ p ∧ p ≤ 9223372036854775807 ∧ s.size ≤ maxLen ∧ a ≤ 9223372036854775807 ∧ 0 ≤ b ∧ b < 18446744073709551616 := by
  obtain ⟨xs, n, _, _, hlen, hxl, hf⟩ := DataW.trod_struct Try.underlying34 h
  rw [cellsOp] at hlen
  match cs, hlen with
  | [c0, c1, c2, c3, c4, c5], _ =>
    have h0 := hf 0 _ rfl
    have h1 := hf 1 _ rfl
    have h2 := hf 2 _ rfl
    have h3 := hf 3 _ rfl
    have h4 := hf 4 _ rfl
    have hx0 : xs[0]? = some (xs[0]'(by rw [hxl]; decide)) := List.getElem?_eq_getElem _
    have hx1 : xs[1]? = some (xs[1]'(by rw [hxl]; decide)) := List.getElem?_eq_getElem _
    have hx2 : xs[2]? = some (xs[2]'(by rw [hxl]; decide)) := List.getElem?_eq_getElem _
    have hx3 : xs[3]? = some (xs[3]'(by rw [hxl]; decide)) := List.getElem?_eq_getElem _
    have hx4 : xs[4]? = some (xs[4]'(by rw [hxl]; decide)) := List.getElem?_eq_getElem _
    rw [hx0] at h0
    rw [hx1] at h1
    rw [hx2] at h2
    rw [hx3] at h3
    rw [hx4] at h4
    simp only [List.getElem_toArray, List.getElem_cons_zero, List.getElem_cons_succ] at h0 h1 h2 h3 h4
    simp only [cellsI, cellsS, cellsB, cellsCut, List.drop_zero, List.take_succ_cons, List.take_zero, List.drop_succ_cons] at h0 h1 h2 h3 h4
    obtain ⟨k, e0, _, _⟩ := DataW.trod_int Try.underlying3 h0
    obtain ⟨p, e1, _, hp⟩ := DataW.trod_int Try.underlying3 h1
    obtain ⟨s, e2, _, hs⟩ := DataW.trod_string Try.underlying9 h2
    obtain ⟨r, e3, _⟩ := DataW.trod_bool Try.underlying4 h3
    obtain ⟨a, b, e4, ha, hb0, hb1⟩ := cut_open h4
    injection e0 with e0
    injection e1 with e1
    injection e2 with e2
    injection e3 with e3
    injection e4 with e4 e5
    injection e5 with e5
    have b1 := bounds_i64 hp
    exact ⟨k, p, s, r, a, b, by rw [e0, e1, e2, e3, e4, e5], b1.1, b1.2, hs, ha, hb0, hb1⟩

/-- What is known of one call of a list. -/
structure OpOk (p : Int) (s : ByteArray) (a b : Int) : Prop where
  p0 : -9223372036854775808 ≤ p
  p1 : p ≤ 9223372036854775807
  s1 : s.size ≤ maxLen
  a1 : a ≤ 9223372036854775807
  b0 : 0 ≤ b
  b1 : b < 18446744073709551616

theorem addr_at (ad : Addr) (k j : Nat) : (⟨(ad.add k).block, (ad.add k).off + (j + 1), none⟩ : Addr) = ad.add (k + (j + 1)) := by
  unfold Addr.add
  by_cases hk : k = 0 <;> simp [hk, Nat.add_assoc]

theorem ops_open {fuel : Nat} {A : Option Addr} {n c : Nat} {x : DataW H × List MemPlace} (h : DataW.trod enc Try.prog w base spare held fuel 22 [.slice A n c] = some x) :
    ∃ (kd pl : Nat → Int) (tx : Nat → ByteArray) (rw_ : Nat → Bool) (ca cb : Nat → Int), OpsAt w A n kd pl tx rw_ ca cb ∧ ∀ i, i < n → OpOk (pl i) (tx i) (ca i) (cb i) := by
  rcases open_slice Try.underlying22 h with ⟨h0, _⟩ | ⟨a, len, cap, m, k, D, Pl, hcs, _, hl, _, hmm, _, hi⟩
  · injection h0 with h0
    injection h0 with hA hn hc
    subst hA hn hc
    exact ⟨fun _ => 0, fun _ => 0, fun _ => ⟨#[]⟩, fun _ => false, fun _ => 0, fun _ => 0, fun h => absurd h (by omega), fun i hi => absurd hi (by omega)⟩
  · injection hcs with hcs
    injection hcs with hA hn hc
    subst hA hn hc
    have hm : n ≤ m := by rw [hmm]; split <;> omega
    have each : ∀ i, i < n → ∃ (k p : Int) (s : ByteArray) (r : Bool) (ca cb : Int), w.cell? (a.add (i * 6)) = some (.int .i64 k) ∧ w.cell? (a.add (i * 6 + 1)) = some (.int .i64 p) ∧ w.cell? (a.add (i * 6 + 2)) = some (.string s) ∧ w.cell? (a.add (i * 6 + 3)) = some (.bool r) ∧ w.cell? (a.add (i * 6 + 4)) = some (.int .i64 ca) ∧ w.cell? (a.add (i * 6 + 5)) = some (.int .u64 cb) ∧ OpOk p s ca cb := fun i hin => by
      obtain ⟨cs', hc', ht'⟩ := hi i (by omega)
      obtain ⟨k, p, s, r, ca, cb, rfl, hp0, hp1, hs, ha, hb0, hb1⟩ := op_open ht'
      rw [cellsOp] at hc'
      obtain ⟨_, _, hat⟩ := World.cells?_some hc'
      refine ⟨k, p, s, r, ca, cb, ?_, ?_, ?_, ?_, ?_, ?_, ⟨hp0, hp1, hs, ha, hb0, hb1⟩⟩
      · have := hat 0 (by omega); simpa [Go.Deep.add_add] using this
      · have := hat 1 (by omega); rw [Go.Deep.add_add] at this; simpa using this
      · have := hat 2 (by omega); rw [Go.Deep.add_add] at this; simpa using this
      · have := hat 3 (by omega); rw [Go.Deep.add_add] at this; simpa using this
      · have := hat 4 (by omega); rw [Go.Deep.add_add] at this; simpa using this
      · have := hat 5 (by omega); rw [Go.Deep.add_add] at this; simpa using this
    refine ⟨fun i => numAt w (a.add (i * 6)), fun i => numAt w (a.add (i * 6 + 1)), fun i => txtAt w (a.add (i * 6 + 2)), fun i => flagAt w (a.add (i * 6 + 3)), fun i => numAt w (a.add (i * 6 + 4)), fun i => numAt w (a.add (i * 6 + 5)), fun _ => ⟨a, rfl, fun i hin => ?_⟩, fun i hin => ?_⟩
    · obtain ⟨k, p, s, r, ca, cb, h0, h1, h2, h3, h4, h5, _⟩ := each i hin
      have e1 := addr_at a (i * 6) 0
      have e2 := addr_at a (i * 6) 1
      have e3 := addr_at a (i * 6) 2
      have e4 := addr_at a (i * 6) 3
      have e5 := addr_at a (i * 6) 4
      simp only [Nat.add_assoc, Nat.reduceAdd] at e1 e2 e3 e4 e5 ⊢
      rw [e1, e2, e3, e4, e5]
      simp only [numAt, txtAt, flagAt, h0, h1, h2, h3, h4, h5]
      exact ⟨trivial, trivial, trivial, trivial, trivial, trivial⟩
    · obtain ⟨k, p, s, r, ca, cb, h0, h1, h2, h3, h4, h5, hok⟩ := each i hin
      simp only [numAt, txtAt, h1, h2, h4, h5]
      exact hok

theorem strs_open {fuel : Nat} {A : Option Addr} {n c : Nat} {x : DataW H × List MemPlace} (h : DataW.trod enc Try.prog w base spare held fuel 46 [.slice A n c] = some x) :
    ∃ tx : Nat → ByteArray, (0 < n → ∃ ad, A = some ad ∧ ∀ i, i < n → w.cell? (ad.add i) = some (.string (tx i))) ∧ ∀ i, i < n → (tx i).size ≤ maxLen := by
  rcases open_strings Try.underlying46 Try.underlying9 cellsS h with ⟨h0, _⟩ | ⟨a, len, cap, ss, hcs, _, hl, _, hss, _, hc, hz⟩
  · injection h0 with h0
    injection h0 with hA hn hc
    subst hA hn hc
    exact ⟨fun _ => ⟨#[]⟩, fun h => absurd h (by omega), fun i hi => absurd hi (by omega)⟩
  · injection hcs with hcs
    injection hcs with hA hn hc'
    subst hA hn hc'
    have hm : n ≤ ss.length := by rw [hss]; split <;> omega
    refine ⟨fun i => ss.getD i ByteArray.empty, fun _ => ⟨a, rfl, fun i hi => hc i (by omega)⟩, fun i hi => hz _ ?_⟩
    simp [show i < ss.length by omega]
end

theorem below_step {w a b : World} (h : Below w.heap.size w a) (k : Below a.heap.size a b) : Below w.heap.size w b := h.trans (k.mono h.size)

section
variable {A : Option Addr} {n c : Nat} {kd pl : Nat → Int} {tx : Nat → ByteArray} {rw_ : Nat → Bool} {ca cb : Nat → Int} {w : World}
set_option maxHeartbeats 1000000 in
set_option maxRecDepth 100000 in
theorem plays_long (N : Int) (h : 200 < n ∨ 200 < N) : Calls Try.prog 3 #[.int .i64 N, .slice A n c] w fun e w' => e = .returned (.bool true) ∧ Below w.heap.size w w' := by
  by_cases h1 : 200 < n
  · clear h
    go_enter Try.func3, Try.ntmps3
    go_wp2_with fail
    refine (awake_true _).mono ?_
    rintro e w1 ⟨rfl, hb1⟩
    go_wp2_with fail
    refine (awake_true _).mono ?_
    rintro e w2 ⟨rfl, hb2⟩
    have hB := below_step hb1 hb2
    clear hb1 hb2
    go_wp2_with fail
    go_ret
    exact ⟨rfl, hB⟩
  · have h2 : 200 < N := by omega
    clear h
    go_enter Try.func3, Try.ntmps3
    go_wp2_with fail
    refine (awake_true _).mono ?_
    rintro e w1 ⟨rfl, hb1⟩
    go_wp2_with fail
    refine (awake_true _).mono ?_
    rintro e w2 ⟨rfl, hb2⟩
    have hB := below_step hb1 hb2
    clear hb1 hb2
    go_wp2_with fail
    go_ret
    exact ⟨rfl, hB⟩
set_option maxHeartbeats 1000000 in
set_option maxRecDepth 100000 in
theorem plays_none (N : Int) (h1 : ¬ 200 < n) (h2 : N < 1) : Calls Try.prog 3 #[.int .i64 N, .slice A n c] w fun e w' => e = .returned (.bool true) ∧ Below w.heap.size w w' := by
  have h3 : ¬ 200 < N := by omega
  go_enter Try.func3, Try.ntmps3
  go_wp2_with fail
  refine (awake_true _).mono ?_
  rintro e w1 ⟨rfl, hb1⟩
  go_wp2_with fail
  refine (dnew_no N _ (.inl h2)).mono ?_
  rintro e w2 ⟨rfl, hb2⟩
  have hB := below_step hb1 hb2
  clear hb1 hb2
  go_wp2_with fail
  go_ret
  exact ⟨rfl, hB⟩
theorem plays_walk (N : Int) (hA : OpsAt w A n kd pl tx rw_ ca cb) (ho : ∀ i, i < n → OpOk (pl i) (tx i) (ca i) (cb i)) (w' : World) (hw : w' = w) :
    Calls Try.prog 3 #[.int .i64 N, .slice A n c] w' fun e w'' => e = .returned (.bool true) ∧ Below w'.heap.size w' w'' := by
  subst hw
  by_cases h1 : 200 < n
  · exact plays_long N (.inl h1)
  by_cases h2 : 200 < N
  · exact plays_long N (.inr h2)
  by_cases h3 : N < 1
  · exact plays_none N h1 h3
  obtain ⟨k, rfl⟩ : ∃ k : Nat, N = k := ⟨N.toNat, by omega⟩
  exact plays_good disk_ok awake_true hA (by omega) k (by omega) (by omega) (fun i hi => ⟨(ho i hi).b0, (ho i hi).b1⟩) (fun i hi => (ho i hi).a1) (fun i hi => (ho i hi).s1)
end
end Go.Proofs.Ytabjpmofakdacaa

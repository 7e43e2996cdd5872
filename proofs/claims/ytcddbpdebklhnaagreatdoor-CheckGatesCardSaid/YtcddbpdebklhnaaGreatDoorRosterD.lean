/-
  Plain words of rosters: the first place at which a test says yes. No program is named here. What roster's small functions (there, Parts, People, Label, Part) answer. No conditions but how the roster lies in memory. What slices.Index, Contains, and roster's twice answer of labels. No conditions but how the labels lie in memory. What the closures of roster.fault answer, and slices.IndexFunc and ContainsFunc of each of them. No conditions but how the lists, and what is captured, lie in memory. What roster.fault answers: why there is no such roster. No conditions but how the lists lie in memory.
-/
import Derived.Test.YtcddbpdebklhnaaGreatDoorLexD
import Derived.Test.YtcddbpdebklhnaaGreatDoorLabelG
import Derived.Test.YtcddbpdebklhnaaGreatDoorFlat
import Derived.WalkKit
import Derived.Deep.QuietTactic
import Derived.BigQuiet
import Derived.Test.YtcddbpdebklhnaaGreatDoorPhaseB
import Derived.Laws.EntriesVeiled
namespace Go.Proofs.YtcddbpdebklhnaaGreatDoor
open Go.RowKit

/-- The first place below n at which p says yes; -1: there is none. -/
def firstN (p : Nat → Bool) : Nat → Int
  | 0 => -1
  | n + 1 => if firstN p n = -1 then (if p n then (n : Int) else -1) else firstN p n

theorem firstN_none {p : Nat → Bool} : ∀ {n : Nat}, (∀ i, i < n → p i = false) → firstN p n = -1
  | 0, _ => rfl
  | n + 1, h => by
    have ih := firstN_none (n := n) (fun i hi => h i (by omega))
    simp [firstN, ih, h n (by omega)]
theorem firstN_hit {p : Nat → Bool} {k : Nat} (hk : p k = true) (h : ∀ i, i < k → p i = false) : ∀ {n : Nat}, k < n → firstN p n = (k : Int)
  | 0, hn => absurd hn (by omega)
  | n + 1, hn => by
    by_cases e : k = n
    · subst e
      simp [firstN, firstN_none h, hk]
    · have ih := firstN_hit hk h (n := n) (by omega)
      have : (k : Int) ≠ -1 := by omega
      simp [firstN, ih, this]
theorem firstN_cases (p : Nat → Bool) : ∀ n : Nat, (firstN p n = -1 ∧ ∀ i, i < n → p i = false) ∨ ∃ k : Nat, k < n ∧ firstN p n = (k : Int) ∧ p k = true ∧ ∀ i, i < k → p i = false
  | 0 => .inl ⟨rfl, fun _ h => absurd h (by omega)⟩
  | n + 1 => by
    rcases firstN_cases p n with ⟨e, h⟩ | ⟨k, hk, e, hp, h⟩
    · cases hn : p n
      · refine .inl ⟨by simp [firstN, e, hn], fun i hi => ?_⟩
        by_cases en : i = n
        · rw [en]; exact hn
        · exact h i (by omega)
      · exact .inr ⟨n, by omega, by simp [firstN, e, hn], hn, h⟩
    · have : (k : Int) ≠ -1 := by omega
      exact .inr ⟨k, by omega, by simp [firstN, e, this], hp, h⟩
theorem firstN_range (p : Nat → Bool) (n : Nat) : -1 ≤ firstN p n ∧ firstN p n < n := by
  rcases firstN_cases p n with ⟨e, _⟩ | ⟨k, hk, e, _⟩ <;> omega

/-- Is there one below n? -/
def anyN (p : Nat → Bool) (n : Nat) : Bool := decide (0 ≤ firstN p n)
theorem anyN_no {p : Nat → Bool} {n : Nat} (h : ∀ i, i < n → p i = false) : anyN p n = false := by simp [anyN, firstN_none h]
theorem anyN_yes {p : Nat → Bool} {n k : Nat} (hk : k < n) (h : p k = true) : anyN p n = true := by
  rcases firstN_cases p n with ⟨_, g⟩ | ⟨j, _, e, _⟩
  · rw [g k hk] at h; cases h
  · simp [anyN, e]
theorem anyN_false {p : Nat → Bool} {n : Nat} (h : anyN p n = false) {i : Nat} (hi : i < n) : p i = false := by
  cases e : p i
  · rfl
  · rw [anyN_yes hi e] at h; cases h

theorem cell_alloc {w : World} {a : Addr} {v : Value} {o : Obj} (h : w.cell? a = some v) : (w.alloc o).cell? a = some v := by
  rw [World.cell?_alloc_lt _ _ _ (World.block_lt_of_cell? _ _ h)]; exact h

/-- n labels stand at A. -/
def LabsAt (w : World) (A : Option Addr) (n : Nat) (lv st : Nat → Int) : Prop :=
  0 < n → ∃ ad, A = some ad ∧ ∀ i, i < n → w.cell? (ad.add (i * 2)) = some (.int .i64 (lv i)) ∧ w.cell? ⟨(ad.add (i * 2)).block, (ad.add (i * 2)).off + 1, none⟩ = some (.int .u16 (st i))
theorem LabsAt.later {w w' : World} {A : Option Addr} {n : Nat} {lv st : Nat → Int} (h : LabsAt w A n lv st) (hb : Below w.heap.size w w') : LabsAt w' A n lv st := fun hn => by
  obtain ⟨ad, e, hc⟩ := h hn
  exact ⟨ad, e, fun i hi => ⟨cell_later hb (hc i hi).1, cell_later hb (hc i hi).2⟩⟩
theorem LabsAt.alloc {w : World} {A : Option Addr} {n : Nat} {lv st : Nat → Int} (h : LabsAt w A n lv st) (o : Obj) : LabsAt (w.alloc o) A n lv st := fun hn => by
  obtain ⟨ad, e, hc⟩ := h hn
  exact ⟨ad, e, fun i hi => ⟨cell_alloc (hc i hi).1, cell_alloc (hc i hi).2⟩⟩
theorem LabsAt.at_ {w : World} {A : Option Addr} {n : Nat} {lv st : Nat → Int} (h : LabsAt w A n lv st) {i : Nat} (hi : i < n) :
    ∃ ad, A = some ad ∧ w.cell? (ad.add (i * 2)) = some (.int .i64 (lv i)) ∧ w.cell? ⟨(ad.add (i * 2)).block, (ad.add (i * 2)).off + 1, none⟩ = some (.int .u16 (st i)) := by
  obtain ⟨ad, e, hc⟩ := h (by omega)
  exact ⟨ad, e, hc i hi⟩

/-- m principals stand at A: their partitions and their labels. -/
def PepsAt (w : World) (A : Option Addr) (m : Nat) (pt al au : Nat → Int) : Prop :=
  0 < m → ∃ ad, A = some ad ∧ ∀ i, i < m → w.cell? (ad.add (i * 3)) = some (.int .i64 (pt i)) ∧ w.cell? ⟨(ad.add (i * 3)).block, (ad.add (i * 3)).off + 1, none⟩ = some (.int .i64 (al i)) ∧ w.cell? ⟨(ad.add (i * 3)).block, (ad.add (i * 3)).off + 1 + 1, none⟩ = some (.int .u16 (au i))
theorem PepsAt.later {w w' : World} {A : Option Addr} {n : Nat} {pt al au : Nat → Int} (h : PepsAt w A n pt al au) (hb : Below w.heap.size w w') : PepsAt w' A n pt al au := fun hn => by
  obtain ⟨ad, e, hc⟩ := h hn
  exact ⟨ad, e, fun i hi => ⟨cell_later hb (hc i hi).1, cell_later hb (hc i hi).2.1, cell_later hb (hc i hi).2.2⟩⟩
theorem PepsAt.alloc {w : World} {A : Option Addr} {n : Nat} {pt al au : Nat → Int} (h : PepsAt w A n pt al au) (o : Obj) : PepsAt (w.alloc o) A n pt al au := fun hn => by
  obtain ⟨ad, e, hc⟩ := h hn
  exact ⟨ad, e, fun i hi => ⟨cell_alloc (hc i hi).1, cell_alloc (hc i hi).2.1, cell_alloc (hc i hi).2.2⟩⟩
theorem PepsAt.at_ {w : World} {A : Option Addr} {n : Nat} {pt al au : Nat → Int} (h : PepsAt w A n pt al au) {i : Nat} (hi : i < n) :
    ∃ ad, A = some ad ∧ w.cell? (ad.add (i * 3)) = some (.int .i64 (pt i)) ∧ w.cell? ⟨(ad.add (i * 3)).block, (ad.add (i * 3)).off + 1, none⟩ = some (.int .i64 (al i)) ∧ w.cell? ⟨(ad.add (i * 3)).block, (ad.add (i * 3)).off + 1 + 1, none⟩ = some (.int .u16 (au i)) := by
  obtain ⟨ad, e, hc⟩ := h (by omega)
  exact ⟨ad, e, hc i hi⟩

end Go.Proofs.YtcddbpdebklhnaaGreatDoor

namespace Go.Proofs.YtcddbpdebklhnaaGreatDoor
open Go.RowKit

/-- Is it a place of a list of n? -/
def thereB (p n : Int) : Bool := decide (0 ≤ p) && decide (p < n)
theorem there_nat {p : Int} {n : Nat} (h : thereB p n = true) : ∃ i : Nat, i < n ∧ p = i := by
  simp [thereB] at h
  exact ⟨p.toNat, by omega, by omega⟩
theorem there_of {i n : Nat} (h : i < n) : thereB i n = true := by simp [thereB, h]

set_option maxHeartbeats 400000 in
set_option maxRecDepth 100000 in
theorem there_is (p n : Int) (r : Bool) (hr : thereB p n = r) (w : World) :
    Calls Tryz.prog 39 #[.int .i64 p, .int .i64 n] w fun e w' => e = .returned (.bool r) ∧ w = w' := by
  have H := Lib.hid hr
  clear hr
  go_enter Tryz.func39, Tryz.ntmps39
  go_wp2
  all_goals
    go_ret
    exact ⟨ret_bool (by rw [← H.out]; simp [thereB]; try omega), rfl⟩

/-- A roster lies in block R: n labels, m principals. -/
def RosAt (w : World) (R n m : Nat) (lv st pt al au : Nat → Int) : Prop :=
  ∃ (A : Option Addr) (c : Nat) (B : Option Addr) (d : Nat), w.cell? ⟨R, 0, none⟩ = some (.slice A n c) ∧ w.cell? ⟨R, 1, none⟩ = some (.slice B m d) ∧ LabsAt w A n lv st ∧ PepsAt w B m pt al au ∧ n ≤ 4 ∧ m ≤ 12
theorem RosAt.later {w w' : World} {R n m : Nat} {lv st pt al au : Nat → Int} (h : RosAt w R n m lv st pt al au) (hb : Below w.heap.size w w') : RosAt w' R n m lv st pt al au := by
  obtain ⟨A, c, B, d, h1, h2, h3, h4, h5⟩ := h
  exact ⟨A, c, B, d, cell_later hb h1, cell_later hb h2, h3.later hb, h4.later hb, h5⟩
theorem RosAt.alloc {w : World} {R n m : Nat} {lv st pt al au : Nat → Int} (h : RosAt w R n m lv st pt al au) (o : Obj) : RosAt (w.alloc o) R n m lv st pt al au := by
  obtain ⟨A, c, B, d, h1, h2, h3, h4, h5⟩ := h
  exact ⟨A, c, B, d, cell_alloc h1, cell_alloc h2, h3.alloc o, h4.alloc o, h5⟩

set_option maxHeartbeats 400000 in
set_option maxRecDepth 100000 in
theorem rparts_is {R n m : Nat} {lv st pt al au : Nat → Int} {w : World} (h : RosAt w R n m lv st pt al au) :
    Calls Tryz.prog 43 #[.pointer (some ⟨R, 0, none⟩)] w fun e w' => e = .returned (.int .i64 n) ∧ w = w' := by
  obtain ⟨A, c, B, d, h1, h2, h3, h4, h5⟩ := h
  go_enter Tryz.func43, Tryz.ntmps43
  go_wp2
  go_ret
  exact ⟨rfl, rfl⟩
set_option maxHeartbeats 400000 in
set_option maxRecDepth 100000 in
theorem parts_nil (w : World) : Calls Tryz.prog 43 #[.pointer none] w fun e w' => e = .returned (.int .i64 0) ∧ w = w' := by
  go_enter Tryz.func43, Tryz.ntmps43
  go_wp2
  go_ret
  exact ⟨rfl, rfl⟩

set_option maxHeartbeats 400000 in
set_option maxRecDepth 100000 in
theorem people_is {R n m : Nat} {lv st pt al au : Nat → Int} {w : World} (h : RosAt w R n m lv st pt al au) :
    Calls Tryz.prog 30 #[.pointer (some ⟨R, 0, none⟩)] w fun e w' => e = .returned (.int .i64 m) ∧ w = w' := by
  obtain ⟨A, c, B, d, h1, h2, h3, h4, h5⟩ := h
  go_enter Tryz.func30, Tryz.ntmps30
  go_wp2
  go_ret
  exact ⟨rfl, rfl⟩
set_option maxHeartbeats 400000 in
set_option maxRecDepth 100000 in
theorem people_nil (w : World) : Calls Tryz.prog 30 #[.pointer none] w fun e w' => e = .returned (.int .i64 0) ∧ w = w' := by
  go_enter Tryz.func30, Tryz.ntmps30
  go_wp2
  go_ret
  exact ⟨rfl, rfl⟩

/-- A partition's level, or its set; 0: there is none. -/
def rlabV (n : Nat) (lv : Nat → Int) (p : Int) : Int := if thereB p n then lv p.toNat else 0
/-- A principal's partition; -1: there is none. -/
def partV (m : Nat) (pt : Nat → Int) (who : Int) : Int := if thereB who m then pt who.toNat else -1

set_option maxHeartbeats 400000 in
set_option maxRecDepth 100000 in
theorem rlabel_is {R n m : Nat} {lv st pt al au : Nat → Int} {w : World} (h : RosAt w R n m lv st pt al au) (p : Int) :
    Calls Tryz.prog 22 #[.pointer (some ⟨R, 0, none⟩), .int .i64 p] w fun e w' => e = .returned (.tuple #[.agg #[.int .i64 (rlabV n lv p), .int .u16 (rlabV n st p)], .bool (thereB p n)]) ∧ Below w.heap.size w w' := by
  cases hp : thereB p n
  · have H1 := Lib.hid (show rlabV n lv p = 0 by simp [rlabV, hp])
    have H2 := Lib.hid (show rlabV n st p = 0 by simp [rlabV, hp])
    have HR := Lib.hid h
    clear h
    go_enter Tryz.func22, Tryz.ntmps22
    go_wp2_with (first | (go_at_call 43; refine (rparts_is (HR.out.alloc _)).mono ?_; rintro e w' ⟨rfl, rfl⟩) | (go_at_call 39; refine (there_is _ _ false hp _).mono ?_; rintro e w' ⟨rfl, rfl⟩))
    refine bodyPost_ret (v := .tuple #[.agg #[.int .i64 (rlabV n lv p), .int .u16 (rlabV n st p)], .bool false]) (by rw [H1.out, H2.out]; simp [results, Tryz.results22, go_sem]) rfl ⟨rfl, ?_⟩
    exact (Below.refl _ _).alloc (Nat.le_refl _) _
  · obtain ⟨i, hi, rfl⟩ := there_nat hp
    have H1 := Lib.hid (show rlabV n lv i = lv i by simp [rlabV, hp])
    have H2 := Lib.hid (show rlabV n st i = st i by simp [rlabV, hp])
    have HR := Lib.hid h
    obtain ⟨A, c, B, d, h1, h2, h3, h4, h5, h6⟩ := h.alloc (.cells #[.int .i64 0, .int .u16 0] 41)
    obtain ⟨ad, rfl, c0, c1⟩ := h3.at_ hi
    clear h h2 h3 h4
    go_enter Tryz.func22, Tryz.ntmps22
    go_wp2_with (first | (go_at_call 43; refine (rparts_is (HR.out.alloc _)).mono ?_; rintro e w' ⟨rfl, rfl⟩) | (go_at_call 39; refine (there_is _ _ true hp _).mono ?_; rintro e w' ⟨rfl, rfl⟩))
    refine bodyPost_ret (v := .tuple #[.agg #[.int .i64 (rlabV n lv i), .int .u16 (rlabV n st i)], .bool true]) (by rw [H1.out, H2.out]; simp [results, Tryz.results22, go_sem]) rfl ⟨rfl, ?_⟩
    exact (Below.refl _ _).alloc (Nat.le_refl _) _
set_option maxHeartbeats 400000 in
set_option maxRecDepth 100000 in
theorem label_nil (p : Int) (w : World) :
    Calls Tryz.prog 22 #[.pointer none, .int .i64 p] w fun e w' => e = .returned (.tuple #[.agg #[.int .i64 0, .int .u16 0], .bool false]) ∧ Below w.heap.size w w' := by
  have hp : thereB p 0 = false := by simp [thereB]
  go_enter Tryz.func22, Tryz.ntmps22
  go_wp2_with (first | (go_at_call 43; refine (parts_nil _).mono ?_; rintro e w' ⟨rfl, rfl⟩) | (go_at_call 39; refine (there_is _ _ false hp _).mono ?_; rintro e w' ⟨rfl, rfl⟩))
  refine bodyPost_ret (v := .tuple #[.agg #[.int .i64 0, .int .u16 0], .bool false]) (by simp [results, Tryz.results22, go_sem]) rfl ⟨rfl, ?_⟩
  exact (Below.refl _ _).alloc (Nat.le_refl _) _

theorem ret_int {k : IntKind} {a b : Int} (h : a = b) : Ending.returned (.int k a) = .returned (.int k b) := by rw [h]

set_option maxHeartbeats 400000 in
set_option maxRecDepth 100000 in
theorem part_is {R n m : Nat} {lv st pt al au : Nat → Int} {w : World} (h : RosAt w R n m lv st pt al au) (p : Int) :
    Calls Tryz.prog 31 #[.pointer (some ⟨R, 0, none⟩), .int .i64 p] w fun e w' => e = .returned (.int .i64 (partV m pt p)) ∧ w = w' := by
  cases hp : thereB p m
  · have H1 := Lib.hid (show partV m pt p = -1 by simp [partV, hp])
    have HR := Lib.hid h
    clear h
    go_enter Tryz.func31, Tryz.ntmps31
    go_wp2_with (first | (go_at_call 30; refine (people_is HR.out).mono ?_; rintro e w' ⟨rfl, rfl⟩) | (go_at_call 39; refine (there_is _ _ false hp _).mono ?_; rintro e w' ⟨rfl, rfl⟩))
    go_ret
    exact ⟨ret_int H1.out.symm, rfl⟩
  · obtain ⟨i, hi, rfl⟩ := there_nat hp
    have H1 := Lib.hid (show partV m pt i = pt i by simp [partV, hp])
    have HR := Lib.hid h
    obtain ⟨A, c, B, d, h1, h2, h3, h4, h5, h6⟩ := h
    obtain ⟨ad, rfl, c0, c1, c2⟩ := h4.at_ hi
    clear h1 h3 h4
    go_enter Tryz.func31, Tryz.ntmps31
    go_wp2_with (first | (go_at_call 30; refine (people_is HR.out).mono ?_; rintro e w' ⟨rfl, rfl⟩) | (go_at_call 39; refine (there_is _ _ true hp _).mono ?_; rintro e w' ⟨rfl, rfl⟩))
    go_ret
    exact ⟨ret_int H1.out.symm, rfl⟩
set_option maxHeartbeats 400000 in
set_option maxRecDepth 100000 in
theorem part_nil (p : Int) (w : World) :
    Calls Tryz.prog 31 #[.pointer none, .int .i64 p] w fun e w' => e = .returned (.int .i64 (-1)) ∧ w = w' := by
  have hp : thereB p 0 = false := by simp [thereB]
  go_enter Tryz.func31, Tryz.ntmps31
  go_wp2_with (first | (go_at_call 30; refine (people_nil _).mono ?_; rintro e w' ⟨rfl, rfl⟩) | (go_at_call 39; refine (there_is _ _ false hp _).mono ?_; rintro e w' ⟨rfl, rfl⟩))
  go_ret
  exact ⟨rfl, rfl⟩

end Go.Proofs.YtcddbpdebklhnaaGreatDoor

namespace Go.Proofs.YtcddbpdebklhnaaGreatDoor
open Go.RowKit

set_option maxHeartbeats 400000 in
set_option maxRecDepth 100000 in
theorem index_is {A : Option Addr} {n c : Nat} {lv st : Nat → Int} {w : World} (h : LabsAt w A n lv st) (hn : n ≤ 64) (l s : Int) :
    Calls Tryz.prog 50 #[.slice A n c, .agg #[.int .i64 l, .int .u16 s]] w fun e w' => e = .returned (.int .i64 (firstN (fun i => sameB l s (lv i) (st i)) n)) ∧ Below w.heap.size w w' := by
  have HL := Lib.hid h
  clear h
  go_enter Tryz.func50, Tryz.ntmps50
  go_wp2
  go_loopw [8] (fun i wr => ∃ k q : Nat, k ≤ n ∧ i = .int .i64 k ∧ Hid (∀ j, j < k → sameB l s (lv j) (st j) = false) ∧ wr = (w.alloc (.cells #[.int .i64 l, .int .u16 s] 41)).drewN q) (fun i _ => n - (intOf i).toNat)
  case atStart => exact ⟨0, 0, Nat.zero_le _, rfl, Lib.hid (fun _ h => absurd h (by omega)), rfl⟩
  case round =>
    obtain ⟨k, q, hk, rfl, H, rfl⟩ := hrel
    by_cases hlt : k < n
    · obtain ⟨ad, rfl, h0, h1⟩ := (HL.out.alloc (.cells #[.int .i64 l, .int .u16 s] 41)).at_ hlt
      cases hs : sameB l s (lv k) (st k)
      · go_wp2
        go_quiet (fail)
        go_wp2
        go_roundw
        case rel => exact ⟨k + 1, _, by omega, by go_num, Lib.hid (fun j hj => by by_cases e : j = k; (rw [e]; exact hs); exact H.out j (by omega)), rfl⟩
        case measure => simp [intOf]; omega
      · go_wp2
        go_quiet (fail)
        go_wp2
        go_ret
        exact ⟨ret_int (firstN_hit (p := fun i => sameB l s (lv i) (st i)) hs H.out hlt).symm, below_drewN (below_drewN ((Below.refl _ _).alloc (Nat.le_refl _) _) _) _⟩
    · obtain rfl : k = n := by omega
      go_wp2
      go_ret
      exact ⟨ret_int (firstN_none (p := fun i => sameB l s (lv i) (st i)) H.out).symm, below_drewN ((Below.refl _ _).alloc (Nat.le_refl _) _) _⟩

set_option maxHeartbeats 400000 in
set_option maxRecDepth 100000 in
theorem rcontains_is {A : Option Addr} {n c : Nat} {lv st : Nat → Int} {w : World} (h : LabsAt w A n lv st) (hn : n ≤ 64) (l s : Int) :
    Calls Tryz.prog 57 #[.slice A n c, .agg #[.int .i64 l, .int .u16 s]] w fun e w' => e = .returned (.bool (anyN (fun i => sameB l s (lv i) (st i)) n)) ∧ Below w.heap.size w w' := by
  have HL := Lib.hid h
  clear h
  go_enter Tryz.func57, Tryz.ntmps57
  go_wp2_with (go_at_call 50; refine (index_is (HL.out.alloc _) hn _ _).mono ?_; rintro e w1 ⟨rfl, hb⟩)
  go_ret
  exact ⟨rfl, below_step ((Below.refl _ _).alloc (Nat.le_refl _) _) hb⟩

/-- Have two partitions one label? -/
def twiceB (n : Nat) (lv st : Nat → Int) : Bool := anyN (fun i => anyN (fun j => sameB (lv i) (st i) (lv j) (st j)) i) n

theorem LabsAt.fewer {w : World} {A : Option Addr} {n k : Nat} {lv st : Nat → Int} (h : LabsAt w A n lv st) (hk : k ≤ n) : LabsAt w A k lv st := fun h0 => by
  obtain ⟨ad, e, hc⟩ := h (by omega)
  exact ⟨ad, e, fun i hi => hc i (by omega)⟩

/-- What is held while a label is looked for among those ahead of it. -/
def TwS (wr : World) (ad : Addr) (k : Nat) (lv st : Nat → Int) (W : World) : Prop :=
  W.cell? ⟨wr.heap.size, 0, none⟩ = some (.int .i64 (lv k)) ∧ W.cell? ⟨wr.heap.size, 1, none⟩ = some (.int .u16 (st k)) ∧ LabsAt W (some ad) k lv st ∧ Below wr.heap.size wr W
theorem TwS.keep {wr : World} {ad : Addr} {k : Nat} {lv st : Nat → Int} : ∀ w w', TwS wr ad k lv st w → Below w.heap.size w w' → TwS wr ad k lv st w' :=
  fun _ _ ⟨a, b, c, d⟩ hb => ⟨cell_later hb a, cell_later hb b, c.later hb, below_step d hb⟩

set_option maxHeartbeats 400000 in
set_option maxRecDepth 100000 in
theorem twice_is {A : Option Addr} {n c : Nat} {lv st : Nat → Int} {w : World} (h : LabsAt w A n lv st) (hn : n ≤ 64) (hc : n ≤ c) :
    Calls Tryz.prog 42 #[.slice A n c] w fun e w' => e = .returned (.bool (twiceB n lv st)) ∧ Below w.heap.size w w' := by
  have HL := Lib.hid h
  clear h
  go_enter Tryz.func42, Tryz.ntmps42
  go_wp2
  go_loopw [7] (fun i wr => ∃ k : Nat, k ≤ n ∧ i = .int .i64 k ∧ Hid (∀ i, i < k → anyN (fun j => sameB (lv i) (st i) (lv j) (st j)) i = false) ∧ Below w.heap.size w wr) (fun i _ => n - (intOf i).toNat)
  case atStart => exact ⟨0, Nat.zero_le _, rfl, Lib.hid (fun _ h => absurd h (by omega)), Below.refl _ _⟩
  case round =>
    obtain ⟨k, hk, rfl, H, hB⟩ := hrel
    by_cases hlt : k < n
    · have hl := HL.out.later hB
      obtain ⟨ad, rfl, h0, h1⟩ := hl.at_ hlt
      have hkc : k ≤ c := by omega
      have hl2 : LabsAt (wr.alloc (.cells #[.int .i64 (lv k), .int .u16 (st k)] 41)) (some ad) k lv st := (hl.fewer (by omega)).alloc _
      cases hs : anyN (fun j => sameB (lv k) (st k) (lv j) (st j)) k
      · go_wp2
        refine wp_region_kept (TwS wr ad k lv st) (by kernel_rfl) (by kernel_rfl) ⟨by simp [go_sem], by simp [go_sem], hl2, ((Below.refl _ _).alloc (Nat.le_refl _) _).drew⟩ ?_
        intro hne
        have f0 : ∀ x : HeldW (TwS wr ad k lv st), x.w.cell? ⟨wr.heap.size, 0, none⟩ = some (.int .i64 (lv k)) := fun x => x.ok.1
        have f1 : ∀ x : HeldW (TwS wr ad k lv st), x.w.cell? ⟨wr.heap.size, 1, none⟩ = some (.int .u16 (st k)) := fun x => x.ok.2.1
        repeat (go_big_quiet_step ((go_at_call 57; rename_i x; refine kept_of TwS.keep (rcontains_is x.ok.2.2.1 (by omega) _ _))))
        refine wpQuiet_nil ?_
        rintro _ ⟨⟨wq, hq⟩, rfl⟩
        obtain ⟨_, _, _, hbq⟩ := hq
        clear f0 f1 hne
        rw [hs]
        go_wp2
        go_roundw
        case rel => exact ⟨k + 1, by omega, by go_num, Lib.hid (fun j hj => by by_cases e : j = k; (rw [e]; exact hs); exact H.out j (by omega)), below_step hB hbq⟩
        case measure => simp [intOf]; omega
      · go_wp2
        refine wp_region_kept (TwS wr ad k lv st) (by kernel_rfl) (by kernel_rfl) ⟨by simp [go_sem], by simp [go_sem], hl2, ((Below.refl _ _).alloc (Nat.le_refl _) _).drew⟩ ?_
        intro hne
        have f0 : ∀ x : HeldW (TwS wr ad k lv st), x.w.cell? ⟨wr.heap.size, 0, none⟩ = some (.int .i64 (lv k)) := fun x => x.ok.1
        have f1 : ∀ x : HeldW (TwS wr ad k lv st), x.w.cell? ⟨wr.heap.size, 1, none⟩ = some (.int .u16 (st k)) := fun x => x.ok.2.1
        repeat (go_big_quiet_step ((go_at_call 57; rename_i x; refine kept_of TwS.keep (rcontains_is x.ok.2.2.1 (by omega) _ _))))
        refine wpQuiet_nil ?_
        rintro _ ⟨⟨wq, hq⟩, rfl⟩
        obtain ⟨_, _, _, hbq⟩ := hq
        clear f0 f1 hne
        rw [hs]
        go_wp2
        go_ret
        exact ⟨ret_bool (anyN_yes (p := fun i => anyN (fun j => sameB (lv i) (st i) (lv j) (st j)) i) hlt hs).symm, below_step hB hbq⟩
    · obtain rfl : k = n := by omega
      go_wp2
      go_ret
      exact ⟨ret_bool (anyN_no H.out).symm, hB⟩

end Go.Proofs.YtcddbpdebklhnaaGreatDoor

namespace Go.Proofs.YtcddbpdebklhnaaGreatDoor
open Go.RowKit

set_option maxHeartbeats 400000 in
set_option maxRecDepth 100000 in
theorem wrongL_is (l s : Int) (w : World) :
    Calls Tryz.prog 35 #[.agg #[.int .i64 l, .int .u16 s]] w fun e w' => e = .returned (.bool (!rightB l)) ∧ Below w.heap.size w w' := by
  go_enter Tryz.func35, Tryz.ntmps35
  go_wp2_with (go_at_call 36; refine (right_is _ _ _ rfl _).mono ?_; rintro e w1 ⟨rfl, hb⟩)
  go_ret
  exact ⟨rfl, below_step ((Below.refl _ _).alloc (Nat.le_refl _) _) hb⟩

set_option maxHeartbeats 400000 in
set_option maxRecDepth 100000 in
theorem wrongA_is (p l s : Int) (B : Nat) (w : World) (hc : w.cell? ⟨B, 0, none⟩ = some (.func (.func 35) #[] #[])) :
    Calls Tryz.prog 37 #[.agg #[.int .i64 p, .int .i64 l, .int .u16 s], .pointer (some ⟨B, 0, none⟩)] w fun e w' => e = .returned (.bool (!rightB l)) ∧ Below w.heap.size w w' := by
  have hc' : (w.alloc (.cells #[.int .i64 p, .int .i64 l, .int .u16 s] 47)).cell? ⟨B, 0, none⟩ = some (.func (.func 35) #[] #[]) := cell_alloc hc
  clear hc
  go_enter Tryz.func37, Tryz.ntmps37
  go_wp2_with (go_at_call 35; refine (wrongL_is _ _ _).mono ?_; rintro e w1 ⟨rfl, hb⟩)
  go_ret
  exact ⟨rfl, below_step ((Below.refl _ _).alloc (Nat.le_refl _) _) hb⟩

set_option maxHeartbeats 400000 in
set_option maxRecDepth 100000 in
theorem wrongP_is (p l s : Int) (B : Nat) (A : Option Addr) (n c : Nat) (w : World) (hc : w.cell? ⟨B, 0, none⟩ = some (.slice A n c)) :
    Calls Tryz.prog 38 #[.agg #[.int .i64 p, .int .i64 l, .int .u16 s], .pointer (some ⟨B, 0, none⟩)] w fun e w' => e = .returned (.bool (!thereB p n)) ∧ Below w.heap.size w w' := by
  have hc' : (w.alloc (.cells #[.int .i64 p, .int .i64 l, .int .u16 s] 47)).cell? ⟨B, 0, none⟩ = some (.slice A n c) := cell_alloc hc
  clear hc
  go_enter Tryz.func38, Tryz.ntmps38
  go_wp2_with (go_at_call 39; refine (there_is _ _ _ rfl _).mono ?_; rintro e w1 ⟨rfl, rfl⟩)
  go_ret
  exact ⟨rfl, (Below.refl _ _).alloc (Nat.le_refl _) _⟩

set_option maxHeartbeats 400000 in
set_option maxRecDepth 100000 in
theorem idxL {A : Option Addr} {n c : Nat} {lv st : Nat → Int} {w : World} (h : LabsAt w A n lv st) (hn : n ≤ 64) :
    Calls Tryz.prog 55 #[.slice A n c, .func (.func 35) #[] #[]] w fun e w' => e = .returned (.int .i64 (firstN (fun i => !rightB (lv i)) n)) ∧ Below w.heap.size w w' := by
  have HL := Lib.hid h
  clear h
  go_enter Tryz.func55, Tryz.ntmps55
  go_wp2
  go_loopw [8] (fun i wr => ∃ k : Nat, k ≤ n ∧ i = .int .i64 k ∧ Hid (∀ j, j < k → (fun i => !rightB (lv i)) j = false) ∧ Below w.heap.size w wr) (fun i _ => n - (intOf i).toNat)
  case atStart => exact ⟨0, Nat.zero_le _, rfl, Lib.hid (fun _ h => absurd h (by omega)), Below.refl _ _⟩
  case round =>
    obtain ⟨k, hk, rfl, H, hB⟩ := hrel
    by_cases hlt : k < n
    · obtain ⟨ad, rfl, h0, h1⟩ := (HL.out.later hB).at_ hlt
      cases hs : (fun i => !rightB (lv i)) k
      · have HS := Lib.hid hs
        simp only [] at hs
        go_wp2_with (go_at_call 35; refine (wrongL_is _ _ _).mono ?_; rintro e w1 ⟨rfl, hb⟩; rw [hs])
        go_roundw
        case rel => exact ⟨k + 1, by omega, by go_num, Lib.hid (fun j hj => by by_cases e : j = k; (rw [e]; exact HS.out); exact H.out j (by omega)), below_step hB hb⟩
        case measure => simp [intOf]; omega
      · have HS := Lib.hid hs
        simp only [] at hs
        go_wp2_with (go_at_call 35; refine (wrongL_is _ _ _).mono ?_; rintro e w1 ⟨rfl, hb⟩; rw [hs])
        go_ret
        exact ⟨ret_int (firstN_hit (p := (fun i => !rightB (lv i))) HS.out H.out hlt).symm, below_step hB hb⟩
    · obtain rfl : k = n := by omega
      go_wp2
      go_ret
      exact ⟨ret_int (firstN_none (p := (fun i => !rightB (lv i))) H.out).symm, hB⟩

set_option maxHeartbeats 400000 in
set_option maxRecDepth 100000 in
theorem hasL {A : Option Addr} {n c : Nat} {lv st : Nat → Int} {w : World} (h : LabsAt w A n lv st) (hn : n ≤ 64) :
    Calls Tryz.prog 40 #[.slice A n c, .func (.func 35) #[] #[]] w fun e w' => e = .returned (.bool (anyN (fun i => !rightB (lv i)) n)) ∧ Below w.heap.size w w' := by
  have HL := Lib.hid h
  clear h
  go_enter Tryz.func40, Tryz.ntmps40
  go_wp2_with (go_at_call 55; refine (idxL HL.out hn).mono ?_; rintro e w1 ⟨rfl, hb⟩)
  go_ret
  exact ⟨rfl, hb⟩

set_option maxHeartbeats 400000 in
set_option maxRecDepth 100000 in
theorem idxA {A : Option Addr} {n c B : Nat} {pt al au : Nat → Int} {w : World} (h : PepsAt w A n pt al au) (hn : n ≤ 64) (hc : w.cell? ⟨B, 0, none⟩ = some (.func (.func 35) #[] #[])) :
    Calls Tryz.prog 56 #[.slice A n c, .func (.func 37) #[] #[.pointer (some ⟨B, 0, none⟩)]] w fun e w' => e = .returned (.int .i64 (firstN (fun i => !rightB (al i)) n)) ∧ Below w.heap.size w w' := by
  have HL := Lib.hid h
  clear h
  have HC := Lib.hid hc
  clear hc
  go_enter Tryz.func56, Tryz.ntmps56
  go_wp2
  go_loopw [8] (fun i wr => ∃ k : Nat, k ≤ n ∧ i = .int .i64 k ∧ Hid (∀ j, j < k → (fun i => !rightB (al i)) j = false) ∧ Below w.heap.size w wr) (fun i _ => n - (intOf i).toNat)
  case atStart => exact ⟨0, Nat.zero_le _, rfl, Lib.hid (fun _ h => absurd h (by omega)), Below.refl _ _⟩
  case round =>
    obtain ⟨k, hk, rfl, H, hB⟩ := hrel
    by_cases hlt : k < n
    · obtain ⟨ad, rfl, h0, h1, h2⟩ := (HL.out.later hB).at_ hlt
      cases hs : (fun i => !rightB (al i)) k
      · have HS := Lib.hid hs
        simp only [] at hs
        go_wp2_with (go_at_call 37; refine (wrongA_is _ _ _ _ _ (cell_later hB HC.out)).mono ?_; rintro e w1 ⟨rfl, hb⟩; rw [hs])
        go_roundw
        case rel => exact ⟨k + 1, by omega, by go_num, Lib.hid (fun j hj => by by_cases e : j = k; (rw [e]; exact HS.out); exact H.out j (by omega)), below_step hB hb⟩
        case measure => simp [intOf]; omega
      · have HS := Lib.hid hs
        simp only [] at hs
        go_wp2_with (go_at_call 37; refine (wrongA_is _ _ _ _ _ (cell_later hB HC.out)).mono ?_; rintro e w1 ⟨rfl, hb⟩; rw [hs])
        go_ret
        exact ⟨ret_int (firstN_hit (p := (fun i => !rightB (al i))) HS.out H.out hlt).symm, below_step hB hb⟩
    · obtain rfl : k = n := by omega
      go_wp2
      go_ret
      exact ⟨ret_int (firstN_none (p := (fun i => !rightB (al i))) H.out).symm, hB⟩

set_option maxHeartbeats 400000 in
set_option maxRecDepth 100000 in
theorem hasA {A : Option Addr} {n c B : Nat} {pt al au : Nat → Int} {w : World} (h : PepsAt w A n pt al au) (hn : n ≤ 64) (hc : w.cell? ⟨B, 0, none⟩ = some (.func (.func 35) #[] #[])) :
    Calls Tryz.prog 41 #[.slice A n c, .func (.func 37) #[] #[.pointer (some ⟨B, 0, none⟩)]] w fun e w' => e = .returned (.bool (anyN (fun i => !rightB (al i)) n)) ∧ Below w.heap.size w w' := by
  have HL := Lib.hid h
  clear h
  have HC := Lib.hid hc
  clear hc
  go_enter Tryz.func41, Tryz.ntmps41
  go_wp2_with (go_at_call 56; refine (idxA HL.out hn HC.out).mono ?_; rintro e w1 ⟨rfl, hb⟩)
  go_ret
  exact ⟨rfl, hb⟩

set_option maxHeartbeats 400000 in
set_option maxRecDepth 100000 in
theorem idxP {A A2 : Option Addr} {n c B n2 c2 : Nat} {pt al au : Nat → Int} {w : World} (h : PepsAt w A n pt al au) (hn : n ≤ 64) (hc : w.cell? ⟨B, 0, none⟩ = some (.slice A2 n2 c2)) :
    Calls Tryz.prog 56 #[.slice A n c, .func (.func 38) #[] #[.pointer (some ⟨B, 0, none⟩)]] w fun e w' => e = .returned (.int .i64 (firstN (fun i => !thereB (pt i) n2) n)) ∧ Below w.heap.size w w' := by
  have HL := Lib.hid h
  clear h
  have HC := Lib.hid hc
  clear hc
  go_enter Tryz.func56, Tryz.ntmps56
  go_wp2
  go_loopw [8] (fun i wr => ∃ k : Nat, k ≤ n ∧ i = .int .i64 k ∧ Hid (∀ j, j < k → (fun i => !thereB (pt i) n2) j = false) ∧ Below w.heap.size w wr) (fun i _ => n - (intOf i).toNat)
  case atStart => exact ⟨0, Nat.zero_le _, rfl, Lib.hid (fun _ h => absurd h (by omega)), Below.refl _ _⟩
  case round =>
    obtain ⟨k, hk, rfl, H, hB⟩ := hrel
    by_cases hlt : k < n
    · obtain ⟨ad, rfl, h0, h1, h2⟩ := (HL.out.later hB).at_ hlt
      cases hs : (fun i => !thereB (pt i) n2) k
      · have HS := Lib.hid hs
        simp only [] at hs
        go_wp2_with (go_at_call 38; refine (wrongP_is _ _ _ _ _ _ _ _ (cell_later hB HC.out)).mono ?_; rintro e w1 ⟨rfl, hb⟩; rw [hs])
        go_roundw
        case rel => exact ⟨k + 1, by omega, by go_num, Lib.hid (fun j hj => by by_cases e : j = k; (rw [e]; exact HS.out); exact H.out j (by omega)), below_step hB hb⟩
        case measure => simp [intOf]; omega
      · have HS := Lib.hid hs
        simp only [] at hs
        go_wp2_with (go_at_call 38; refine (wrongP_is _ _ _ _ _ _ _ _ (cell_later hB HC.out)).mono ?_; rintro e w1 ⟨rfl, hb⟩; rw [hs])
        go_ret
        exact ⟨ret_int (firstN_hit (p := (fun i => !thereB (pt i) n2)) HS.out H.out hlt).symm, below_step hB hb⟩
    · obtain rfl : k = n := by omega
      go_wp2
      go_ret
      exact ⟨ret_int (firstN_none (p := (fun i => !thereB (pt i) n2)) H.out).symm, hB⟩

set_option maxHeartbeats 400000 in
set_option maxRecDepth 100000 in
theorem hasP {A A2 : Option Addr} {n c B n2 c2 : Nat} {pt al au : Nat → Int} {w : World} (h : PepsAt w A n pt al au) (hn : n ≤ 64) (hc : w.cell? ⟨B, 0, none⟩ = some (.slice A2 n2 c2)) :
    Calls Tryz.prog 41 #[.slice A n c, .func (.func 38) #[] #[.pointer (some ⟨B, 0, none⟩)]] w fun e w' => e = .returned (.bool (anyN (fun i => !thereB (pt i) n2) n)) ∧ Below w.heap.size w w' := by
  have HL := Lib.hid h
  clear h
  have HC := Lib.hid hc
  clear hc
  go_enter Tryz.func41, Tryz.ntmps41
  go_wp2_with (go_at_call 56; refine (idxP HL.out hn HC.out).mono ?_; rintro e w1 ⟨rfl, hb⟩)
  go_ret
  exact ⟨rfl, hb⟩

end Go.Proofs.YtcddbpdebklhnaaGreatDoor

namespace Go.Proofs.YtcddbpdebklhnaaGreatDoor
open Go.RowKit

/-- Why there is no such roster; 0: there is one. -/
def faultV (n m : Nat) (lv st pt al : Nat → Int) : Int :=
  if n = 0 ∨ 4 < n ∨ 12 < m then 1 else if anyN (fun i => !rightB (lv i)) n then 1 else if anyN (fun i => !rightB (al i)) m then 1
  else if twiceB n lv st then 7 else if anyN (fun i => !thereB (pt i) n) m then 2 else 0

theorem faultV_len {n m : Nat} (lv st pt al : Nat → Int) (h : n = 0 ∨ 4 < n ∨ 12 < m) : faultV n m lv st pt al = 1 := by
  unfold faultV; rw [if_pos h]

theorem hmf (fn : Fn) (first cap : Array Value) (w : World) : (Instr.makeFunc fn first cap).run Tryz.prog w = .ok (.func fn first cap) w := rfl
attribute [local go_sem] hmf

section
variable {A B : Option Addr} {n m c d : Nat} {lv st pt al au : Nat → Int} {w : World}

set_option maxHeartbeats 400000 in
set_option maxRecDepth 100000 in
theorem fault_len (h : n = 0 ∨ 4 < n ∨ 12 < m) :
    Calls Tryz.prog 19 #[.slice A n c, .slice B m d] w fun e w' => e = .returned (.int .i64 1) ∧ Below w.heap.size w w' := by
  by_cases h0 : n = 0
  · subst h0
    clear h
    go_enter Tryz.func19, Tryz.ntmps19
    go_wp2
    go_ret
    refine ⟨rfl, ?_⟩
    exact (((Below.refl _ _).alloc (Nat.le_refl _) _).alloc (by simp) _)
  by_cases h4 : 4 < n
  · have hz : (n == 0) = false := by simp; omega
    clear h
    go_enter Tryz.func19, Tryz.ntmps19
    go_wp2
    go_ret
    refine ⟨rfl, ?_⟩
    exact (((Below.refl _ _).alloc (Nat.le_refl _) _).alloc (by simp) _)
  · have h12 : 12 < m := by omega
    have hz : (n == 0) = false := by simp; omega
    clear h
    go_enter Tryz.func19, Tryz.ntmps19
    go_wp2
    go_ret
    refine ⟨rfl, ?_⟩
    exact (((Below.refl _ _).alloc (Nat.le_refl _) _).alloc (by simp) _)

/-- The world once fault's three closures are made. -/
abbrev faultW (w : World) (A : Option Addr) (n c : Nat) : World :=
  (w.alloc (.cells #[.slice A n c] 25)).alloc (.cells #[.func (.func 35) #[] #[]] 54)

set_option maxHeartbeats 1000000 in
set_option maxRecDepth 100000 in
theorem fault_all (hl : LabsAt w A n lv st) (hp : PepsAt w B m pt al au) (hc : n ≤ c) (h1 : 0 < n) (h4 : n ≤ 4) (h12 : m ≤ 12) :
    Calls Tryz.prog 19 #[.slice A n c, .slice B m d] w fun e w' => e = .returned (.int .i64 (faultV n m lv st pt al)) ∧ Below w.heap.size w w' := by
  have hz : (n == 0) = false := by simp; omega
  have hB0 : Below w.heap.size w (faultW w A n c) := ((Below.refl _ _).alloc (Nat.le_refl _) _).alloc (by simp) _
  have hl0 : LabsAt (faultW w A n c) A n lv st := hl.later hB0
  have hp0 : PepsAt (faultW w A n c) B m pt al au := hp.later hB0
  have cs0 : (faultW w A n c).cell? ⟨w.heap.size, 0, none⟩ = some (.slice A n c) := by simp [go_sem]
  have cf0 : (faultW w A n c).cell? ⟨w.heap.size + 1, 0, none⟩ = some (.func (.func 35) #[] #[]) := by simp [go_sem]
  have H0 := Lib.hid (show faultV n m lv st pt al = if anyN (fun i => !rightB (lv i)) n then 1 else if anyN (fun i => !rightB (al i)) m then 1
    else if twiceB n lv st then 7 else if anyN (fun i => !thereB (pt i) n) m then 2 else 0 by unfold faultV; rw [if_neg (by omega)])
  generalize hr : faultV n m lv st pt al = r at H0 ⊢
  clear hr hl hp
  have n4 : n ≤ 64 := by omega
  have m4 : m ≤ 64 := by omega
  cases k1 : anyN (fun i => !rightB (lv i)) n
  · cases k2 : anyN (fun i => !rightB (al i)) m
    · cases k3 : twiceB n lv st
      · cases k4 : anyN (fun i => !thereB (pt i) n) m
        · have hr : r = 0 := by have := H0.out; rw [k1, k2, k3, k4] at this; simpa using this
          clear H0
          subst hr
          go_enter Tryz.func19, Tryz.ntmps19
          go_wp2_with fail
          refine (hasL hl0 n4).mono ?_
          rintro e w1 ⟨rfl, hb1⟩
          rw [k1]
          have hB1 := below_step hB0 hb1
          have hl1 := hl0.later hb1
          have hp1 := hp0.later hb1
          have cs1 := cell_later hb1 cs0
          have cf1 := cell_later hb1 cf0
          clear hb1 hB0 hl0 hp0 cs0 cf0
          go_wp2_with fail
          refine (hasA hp1 m4 cf1).mono ?_
          rintro e w2 ⟨rfl, hb2⟩
          rw [k2]
          have hB2 := below_step hB1 hb2
          have hl2 := hl1.later hb2
          have hp2 := hp1.later hb2
          have cs2 := cell_later hb2 cs1
          have cf2 := cell_later hb2 cf1
          clear hb2 hB1 hl1 hp1 cs1 cf1
          go_wp2_with fail
          refine (twice_is hl2 n4 hc).mono ?_
          rintro e w3 ⟨rfl, hb3⟩
          rw [k3]
          have hB3 := below_step hB2 hb3
          have hl3 := hl2.later hb3
          have hp3 := hp2.later hb3
          have cs3 := cell_later hb3 cs2
          have cf3 := cell_later hb3 cf2
          clear hb3 hB2 hl2 hp2 cs2 cf2
          go_wp2_with fail
          refine (hasP hp3 m4 cs3).mono ?_
          rintro e w4 ⟨rfl, hb4⟩
          rw [k4]
          have hB4 := below_step hB3 hb4
          have hl4 := hl3.later hb4
          have hp4 := hp3.later hb4
          have cs4 := cell_later hb4 cs3
          have cf4 := cell_later hb4 cf3
          clear hb4 hB3 hl3 hp3 cs3 cf3
          go_wp2_with fail
          go_ret
          exact ⟨rfl, hB4⟩
        · have hr : r = 2 := by have := H0.out; rw [k1, k2, k3, k4] at this; simpa using this
          clear H0
          subst hr
          go_enter Tryz.func19, Tryz.ntmps19
          go_wp2_with fail
          refine (hasL hl0 n4).mono ?_
          rintro e w1 ⟨rfl, hb1⟩
          rw [k1]
          have hB1 := below_step hB0 hb1
          have hl1 := hl0.later hb1
          have hp1 := hp0.later hb1
          have cs1 := cell_later hb1 cs0
          have cf1 := cell_later hb1 cf0
          clear hb1 hB0 hl0 hp0 cs0 cf0
          go_wp2_with fail
          refine (hasA hp1 m4 cf1).mono ?_
          rintro e w2 ⟨rfl, hb2⟩
          rw [k2]
          have hB2 := below_step hB1 hb2
          have hl2 := hl1.later hb2
          have hp2 := hp1.later hb2
          have cs2 := cell_later hb2 cs1
          have cf2 := cell_later hb2 cf1
          clear hb2 hB1 hl1 hp1 cs1 cf1
          go_wp2_with fail
          refine (twice_is hl2 n4 hc).mono ?_
          rintro e w3 ⟨rfl, hb3⟩
          rw [k3]
          have hB3 := below_step hB2 hb3
          have hl3 := hl2.later hb3
          have hp3 := hp2.later hb3
          have cs3 := cell_later hb3 cs2
          have cf3 := cell_later hb3 cf2
          clear hb3 hB2 hl2 hp2 cs2 cf2
          go_wp2_with fail
          refine (hasP hp3 m4 cs3).mono ?_
          rintro e w4 ⟨rfl, hb4⟩
          rw [k4]
          have hB4 := below_step hB3 hb4
          have hl4 := hl3.later hb4
          have hp4 := hp3.later hb4
          have cs4 := cell_later hb4 cs3
          have cf4 := cell_later hb4 cf3
          clear hb4 hB3 hl3 hp3 cs3 cf3
          go_wp2_with fail
          go_ret
          exact ⟨rfl, hB4⟩
      · have hr : r = 7 := by have := H0.out; rw [k1, k2, k3] at this; simpa using this
        clear H0
        subst hr
        go_enter Tryz.func19, Tryz.ntmps19
        go_wp2_with fail
        refine (hasL hl0 n4).mono ?_
        rintro e w1 ⟨rfl, hb1⟩
        rw [k1]
        have hB1 := below_step hB0 hb1
        have hl1 := hl0.later hb1
        have hp1 := hp0.later hb1
        have cs1 := cell_later hb1 cs0
        have cf1 := cell_later hb1 cf0
        clear hb1 hB0 hl0 hp0 cs0 cf0
        go_wp2_with fail
        refine (hasA hp1 m4 cf1).mono ?_
        rintro e w2 ⟨rfl, hb2⟩
        rw [k2]
        have hB2 := below_step hB1 hb2
        have hl2 := hl1.later hb2
        have hp2 := hp1.later hb2
        have cs2 := cell_later hb2 cs1
        have cf2 := cell_later hb2 cf1
        clear hb2 hB1 hl1 hp1 cs1 cf1
        go_wp2_with fail
        refine (twice_is hl2 n4 hc).mono ?_
        rintro e w3 ⟨rfl, hb3⟩
        rw [k3]
        have hB3 := below_step hB2 hb3
        have hl3 := hl2.later hb3
        have hp3 := hp2.later hb3
        have cs3 := cell_later hb3 cs2
        have cf3 := cell_later hb3 cf2
        clear hb3 hB2 hl2 hp2 cs2 cf2
        go_wp2_with fail
        go_ret
        exact ⟨rfl, hB3⟩
    · have hr : r = 1 := by have := H0.out; rw [k1, k2] at this; simpa using this
      clear H0
      subst hr
      go_enter Tryz.func19, Tryz.ntmps19
      go_wp2_with fail
      refine (hasL hl0 n4).mono ?_
      rintro e w1 ⟨rfl, hb1⟩
      rw [k1]
      have hB1 := below_step hB0 hb1
      have hl1 := hl0.later hb1
      have hp1 := hp0.later hb1
      have cs1 := cell_later hb1 cs0
      have cf1 := cell_later hb1 cf0
      clear hb1 hB0 hl0 hp0 cs0 cf0
      go_wp2_with fail
      refine (hasA hp1 m4 cf1).mono ?_
      rintro e w2 ⟨rfl, hb2⟩
      rw [k2]
      have hB2 := below_step hB1 hb2
      have hl2 := hl1.later hb2
      have hp2 := hp1.later hb2
      have cs2 := cell_later hb2 cs1
      have cf2 := cell_later hb2 cf1
      clear hb2 hB1 hl1 hp1 cs1 cf1
      go_wp2_with fail
      go_ret
      exact ⟨rfl, hB2⟩
  · have hr : r = 1 := by have := H0.out; rw [k1] at this; simpa using this
    clear H0
    subst hr
    go_enter Tryz.func19, Tryz.ntmps19
    go_wp2_with fail
    refine (hasL hl0 n4).mono ?_
    rintro e w1 ⟨rfl, hb1⟩
    rw [k1]
    have hB1 := below_step hB0 hb1
    have hl1 := hl0.later hb1
    have hp1 := hp0.later hb1
    have cs1 := cell_later hb1 cs0
    have cf1 := cell_later hb1 cf0
    clear hb1 hB0 hl0 hp0 cs0 cf0
    go_wp2_with fail
    go_ret
    exact ⟨rfl, hB1⟩

end
end Go.Proofs.YtcddbpdebklhnaaGreatDoor

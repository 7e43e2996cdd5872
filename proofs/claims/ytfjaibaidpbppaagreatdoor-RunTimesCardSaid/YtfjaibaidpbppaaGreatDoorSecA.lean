/-
  Plain words of sectors, on: a bit that is turned in the stamps; how many sectors a text takes, its pieces, and how they are read. No program is named here. Plain words of texts that are written one behind the other: numbers' digits, numbers' and texts' texts, and what stands at a text's front. No program is named here. What the document's words for sectors (package lockageref04) answer: Right, Count, number, value. No conditions but the numbers' types.
-/
import Derived.Test.YtfjaibaidpbppaaGreatDoorFirst
import Derived.Test.YtfjaibaidpbppaaGreatDoorProg
import Derived.WalkKit
import Derived.WalkSpells
import Derived.OwnWalk
import Derived.Laws.OwnMore
import Derived.Laws.MakeOwn
import Derived.Outline
namespace Go.Proofs.YtfjaibaidpbppaaGreatDoor

/-- A sector with another byte in one of its stamps is none. -/
theorem turned_none {p : Pc} (h : p.Ok) {j : Nat} (hj : j < 8 ∨ (56 ≤ j ∧ j < 64)) {v : UInt8} (hv : (printL p)[j]? ≠ some v) : readP (ofL ((printL p).set j v)) = none := by
  cases hr : readP (ofL ((printL p).set j v)) with
  | none => rfl
  | some q =>
    have he := read_ends hr
    have hl := printL_len h.d
    obtain ⟨e1, e2⟩ := print_ends h.d
    rw [bl_ofL] at he
    exfalso
    apply hv
    rcases hj with hj | ⟨hj, hj2⟩
    · have h1 : ((printL p).set j v).drop 56 = (printL p).drop 56 := by rw [List.drop_set_of_lt (by omega)]
      rw [h1, e2] at he
      have h2 := congrArg (fun l => l[j]?) he
      simp only [List.getElem?_take, if_pos hj] at h2
      rw [List.getElem?_set_self (by omega), ← e1, List.getElem?_take, if_pos hj] at h2
      exact h2.symm
    · have h1 : ((printL p).set j v).take 8 = (printL p).take 8 := by
        refine List.ext_getElem? fun i => ?_
        rw [List.getElem?_take, List.getElem?_take]
        split
        · rw [List.getElem?_set_ne (by omega)]
        · rfl
      rw [h1, e1] at he
      have h2 := congrArg (fun l => l[j - 56]?) he
      simp only [List.getElem?_drop] at h2
      rw [show 56 + (j - 56) = j by omega, List.getElem?_set_self (by omega), ← e2, List.getElem?_drop, show 56 + (j - 56) = j by omega] at h2
      exact h2

/-- How many sectors a text of n bytes takes. -/
def cntI (n : Int) : Int := if n ≤ 37 then 1 else (n - 1) / 37 + 1
def cntN (n : Nat) : Nat := if n ≤ 37 then 1 else (n - 1) / 37 + 1
theorem cntI_nat (n : Nat) : cntI n = cntN n := by
  unfold cntI cntN
  by_cases h : n ≤ 37
  · rw [if_pos (by omega), if_pos h]; rfl
  · rw [if_neg (by omega), if_neg h]; omega
theorem cnt_pos (n : Nat) : 1 ≤ cntN n := by unfold cntN; split <;> omega
theorem cnt_room (n : Nat) : n ≤ 37 * cntN n ∧ (1 < cntN n → 37 * (cntN n - 1) < n) := by unfold cntN; split <;> omega

/-- The i-th piece of a text. -/
def pieceI (s : ByteArray) (stamp gen no : Int) (i : Nat) : Pc := ⟨stamp, gen, no, i, cntN s.size, s.extract (min s.size (37 * i)) (min s.size (37 * i + 37))⟩
/-- May its pieces be? -/
def layOk (s : ByteArray) (gen no : Int) : Bool := decide (0 ≤ gen) && decide (gen < 2147483648) && decide (0 ≤ no) && decide (no < 65536) && decide (cntN s.size < 65536)
theorem piece_right {s : ByteArray} {stamp gen no : Int} {i : Nat} (hi : i < cntN s.size) : rightP (pieceI s stamp gen no i) = layOk s gen no := by
  have h1 := cnt_pos s.size
  have h2 : (pieceI s stamp gen no i).data.size ≤ 37 := by simp only [pieceI, ByteArray.size_extract]; omega
  rw [Bool.eq_iff_iff]
  simp only [rightP, layOk, Bool.and_eq_true, decide_eq_true_eq]
  simp only [pieceI] at h2 ⊢
  omega
/-- A text's sectors. -/
def layL (s : ByteArray) (stamp gen no : Int) : List ByteArray := (List.range (cntN s.size)).map fun i => printB (pieceI s stamp gen no i)
theorem layL_len (s : ByteArray) (stamp gen no : Int) : (layL s stamp gen no).length = cntN s.size := by simp [layL]
theorem layL_at {s : ByteArray} {stamp gen no : Int} {i : Nat} (hi : i < cntN s.size) : (layL s stamp gen no)[i]? = some (printB (pieceI s stamp gen no i)) := by simp [layL, hi]
theorem piece_read {s : ByteArray} {stamp gen no : Int} {i : Nat} (hi : i < cntN s.size) (hok : layOk s gen no = true) (h0 : 0 ≤ stamp) (h1 : stamp < 18446744073709551616) : readP (printB (pieceI s stamp gen no i)) = some (pieceI s stamp gen no i) :=
  read_print ((rightP_iff _).1 ((piece_right hi).trans hok)) ⟨h0, h1⟩
/-- All but the last one are full; none behind the first one is empty. -/
theorem piece_size {s : ByteArray} {stamp gen no : Int} {i : Nat} : (i + 1 < cntN s.size → (pieceI s stamp gen no i).data.size = 37) ∧ (0 < i → i < cntN s.size → (pieceI s stamp gen no i).data.size ≠ 0) := by
  obtain ⟨h1, h2⟩ := cnt_room s.size
  simp only [pieceI, ByteArray.size_extract]
  constructor
  · intro h
    have := h2 (by omega)
    omega
  · intro h3 h4
    have := h2 (by omega)
    omega
/-- The first i pieces' texts, one behind the other. -/
def joinP (s : ByteArray) (i : Nat) : ByteArray := s.extract 0 (min s.size (37 * i))
theorem joinP_next (s : ByteArray) (stamp gen no : Int) (i : Nat) : joinP s i ++ (pieceI s stamp gen no i).data = joinP s (i + 1) := by
  apply bl_inj
  simp only [joinP, pieceI, bl_append, bl_extract, List.drop_zero]
  have hl : (bl s).length = s.size := bl_len s
  have h1 : (bl s).take (min s.size (37 * i)) = ((bl s).take (min s.size (37 * i + 37))).take (min s.size (37 * i)) := by
    rw [List.take_take]
    congr 1
    omega
  rw [h1, List.take_append_drop]
  congr 1
theorem joinP_all (s : ByteArray) : joinP s (cntN s.size) = s := by
  have h := (cnt_room s.size).1
  unfold joinP
  rw [show min s.size (37 * cntN s.size) = s.size by omega, ByteArray.extract_zero_size]

/-- The text that stands at a place, of sectors that rd tells: document's words (layer 4). -/
def nextF (rd : Int → ByteArray) (at_ end_ gen no : Int) : Nat → Nat → Option Pc → ByteArray → Option (ByteArray × Int)
  | 0, _, _, _ => none
  | f + 1, i, first, acc =>
    if end_ ≤ at_ + i then none else
    match readP (rd (at_ + i)) with
    | none => none
    | some p =>
      let q := first.getD p
      if p.gen = gen ∧ p.no = no ∧ p.idx = i ∧ p.stamp = q.stamp ∧ p.tot = q.tot ∧ ((i : Int) < p.tot - 1 → p.data.size = 37) ∧ (0 < i → p.data.size ≠ 0) then
        if (i : Int) = p.tot - 1 then some (acc ++ p.data, at_ + i + 1) else nextF rd at_ end_ gen no f (i + 1) (some q) (acc ++ p.data)
      else none
def nextP (rd : Int → ByteArray) (at_ end_ gen no : Int) : Option (ByteArray × Int) := nextF rd at_ end_ gen no (end_ - at_).toNat 0 none ⟨#[]⟩

/-- A text that was laid is found, if there is room to its end. -/
theorem next_lay {rd : Int → ByteArray} {s : ByteArray} {stamp gen no at_ end_ : Int} (hok : layOk s gen no = true) (h0 : 0 ≤ stamp) (h1 : stamp < 18446744073709551616)
    (hrd : ∀ i : Nat, i < cntN s.size → rd (at_ + i) = printB (pieceI s stamp gen no i)) (hend : at_ + cntN s.size ≤ end_) :
    ∀ (d i f : Nat) (first : Option Pc), i + d = cntN s.size → 0 < d → d ≤ f → (∀ q, first = some q → q.stamp = stamp ∧ q.tot = cntN s.size) →
      nextF rd at_ end_ gen no f i first (joinP s i) = some (s, at_ + cntN s.size)
  | 0, _, _, _, _, hd, _, _ => absurd hd (by omega)
  | d + 1, i, 0, _, _, _, hf, _ => absurd hf (by omega)
  | d + 1, i, f + 1, first, hi, _, hf, hq => by
    have hlt : i < cntN s.size := by omega
    have hr := piece_read (stamp := stamp) hlt hok h0 h1
    obtain ⟨hs1, hs2⟩ := piece_size (s := s) (stamp := stamp) (gen := gen) (no := no) (i := i)
    have hq2 : (first.getD (pieceI s stamp gen no i)).stamp = stamp ∧ (first.getD (pieceI s stamp gen no i)).tot = cntN s.size := by
      cases first with
      | none => exact ⟨rfl, rfl⟩
      | some q => exact hq q rfl
    unfold nextF
    rw [if_neg (by omega), hrd i hlt, hr]
    simp only
    rw [if_pos ⟨rfl, rfl, rfl, hq2.1.symm, hq2.2.symm, fun h => hs1 (by simp only [pieceI] at h; omega), fun h => hs2 h hlt⟩, joinP_next]
    by_cases hl : d = 0
    · have e1 : (i : Int) = (pieceI s stamp gen no i).tot - 1 := by show (i : Int) = ((cntN s.size : Nat) : Int) - 1; omega
      have e2 : at_ + (i : Int) + 1 = at_ + cntN s.size := by omega
      rw [if_pos e1, show i + 1 = cntN s.size by omega, joinP_all, e2]
    · have e1 : ¬ (i : Int) = (pieceI s stamp gen no i).tot - 1 := by show ¬ (i : Int) = ((cntN s.size : Nat) : Int) - 1; omega
      rw [if_neg e1]
      exact next_lay hok h0 h1 hrd hend d (i + 1) f _ (by omega) (by omega) (by omega) (fun q e => by obtain rfl := Option.some.inj e; exact hq2)
/-- .. and not, if the end is ahead of its last sector. -/
theorem next_short {rd : Int → ByteArray} {s : ByteArray} {stamp gen no at_ end_ : Int} (hok : layOk s gen no = true) (h0 : 0 ≤ stamp) (h1 : stamp < 18446744073709551616)
    (hrd : ∀ i : Nat, i < cntN s.size → rd (at_ + i) = printB (pieceI s stamp gen no i)) (hend : end_ < at_ + cntN s.size) :
    ∀ (f i : Nat) (first : Option Pc) (acc : ByteArray), i < cntN s.size → (∀ q, first = some q → q.stamp = stamp ∧ q.tot = cntN s.size) → nextF rd at_ end_ gen no f i first acc = none
  | 0, _, _, _, _, _ => rfl
  | f + 1, i, first, acc, hi, hq => by
    unfold nextF
    by_cases he : end_ ≤ at_ + i
    · rw [if_pos he]
    · have hr := piece_read (stamp := stamp) hi hok h0 h1
      obtain ⟨hs1, hs2⟩ := piece_size (s := s) (stamp := stamp) (gen := gen) (no := no) (i := i)
      have hq2 : (first.getD (pieceI s stamp gen no i)).stamp = stamp ∧ (first.getD (pieceI s stamp gen no i)).tot = cntN s.size := by
        cases first with
        | none => exact ⟨rfl, rfl⟩
        | some q => exact hq q rfl
      rw [if_neg he, hrd i hi, hr]
      simp only
      rw [if_pos ⟨rfl, rfl, rfl, hq2.1.symm, hq2.2.symm, fun h => hs1 (by simp only [pieceI] at h; omega), fun h => hs2 h hi⟩]
      have e1 : ¬ (i : Int) = (pieceI s stamp gen no i).tot - 1 := by show ¬ (i : Int) = ((cntN s.size : Nat) : Int) - 1; omega
      rw [if_neg e1]
      exact next_short hok h0 h1 hrd hend f (i + 1) _ _ (by omega) (fun q e => by obtain rfl := Option.some.inj e; exact hq2)
/-- .. and not under another number. -/
theorem next_other {rd : Int → ByteArray} {p : Pc} {at_ end_ gen no : Int} (hr : readP (rd at_) = some p) (hne : p.no ≠ no) : nextP rd at_ end_ gen no = none := by
  unfold nextP
  cases (end_ - at_).toNat with
  | zero => rfl
  | succ f =>
    unfold nextF
    split
    · rfl
    · rw [show at_ + ((0 : Nat) : Int) = at_ by omega, hr]
      simp only
      rw [if_neg (fun h => hne h.2.1)]
end Go.Proofs.YtfjaibaidpbppaaGreatDoor

namespace Go.Proofs.YtfjaibaidpbppaaGreatDoor

/-- A number's digits. -/
def digN (n : Nat) : List UInt8 := if _h : n < 10 then [UInt8.ofNat (48 + n)] else digN (n / 10) ++ [UInt8.ofNat (48 + n % 10)]
termination_by n
decreasing_by omega
theorem digN_low {n : Nat} (h : n < 10) : digN n = [UInt8.ofNat (48 + n)] := by
  rw [digN, dif_pos h]
theorem digN_more {n : Nat} (h : ¬ n < 10) : digN n = digN (n / 10) ++ [UInt8.ofNat (48 + n % 10)] := by
  rw [digN, dif_neg h]
/-- What digits are worth. -/
def valD (l : List UInt8) : Nat := l.foldl (fun a d => 10 * a + (d.toNat - 48)) 0
theorem valD_snoc (l : List UInt8) (d : UInt8) : valD (l ++ [d]) = 10 * valD l + (d.toNat - 48) := by simp [valD]
theorem dig_val {k : Nat} (h : k < 10) : (UInt8.ofNat (48 + k)).toNat = 48 + k := by
  rw [UInt8.toNat_ofNat']
  omega
theorem digN_val (n : Nat) : valD (digN n) = n := by
  induction n using Nat.strongRecOn with
  | ind n ih =>
    by_cases h : n < 10
    · rw [digN_low h]
      simp only [valD, List.foldl_cons, List.foldl_nil, dig_val h]
      omega
    · rw [digN_more h, valD_snoc, ih (n / 10) (by omega), dig_val (by omega)]
      omega
theorem digN_inj {a b : Nat} (h : digN a = digN b) : a = b := by
  rw [← digN_val a, h, digN_val]
theorem digN_digit (n : Nat) : ∀ d ∈ digN n, 48 ≤ d.toNat ∧ d.toNat ≤ 57 := by
  induction n using Nat.strongRecOn with
  | ind n ih =>
    intro d hd
    by_cases h : n < 10
    · rw [digN_low h, List.mem_singleton] at hd
      rw [hd, dig_val h]
      omega
    · rw [digN_more h, List.mem_append, List.mem_singleton] at hd
      rcases hd with hd | hd
      · exact ih (n / 10) (by omega) d hd
      · rw [hd, dig_val (by omega)]
        omega
theorem digN_len (n : Nat) : ∀ k, 1 ≤ k → n < 10 ^ k → (digN n).length ≤ k := by
  induction n using Nat.strongRecOn with
  | ind n ih =>
    intro k hk hn
    by_cases h : n < 10
    · rw [digN_low h]; exact hk
    · rw [digN_more h, List.length_append, List.length_singleton]
      obtain ⟨j, rfl⟩ : ∃ j, k = j + 1 := ⟨k - 1, by omega⟩
      rw [Nat.pow_succ] at hn
      by_cases hj : j = 0
      · subst hj; omega
      · have := ih (n / 10) (by omega) j (by omega) (by omega)
        omega
theorem digN_pos (n : Nat) : 1 ≤ (digN n).length := by
  by_cases h : n < 10
  · rw [digN_low h]; exact Nat.le_refl _
  · rw [digN_more h, List.length_append, List.length_singleton]; omega
/-- No nought ahead, but of 0 itself. -/
theorem digN_head {n : Nat} (h : 0 < n) : ∃ d l, digN n = d :: l ∧ 49 ≤ d.toNat ∧ d.toNat ≤ 57 := by
  induction n using Nat.strongRecOn with
  | ind n ih =>
    by_cases h1 : n < 10
    · rw [digN_low h1]
      exact ⟨_, [], rfl, by rw [dig_val h1]; omega, by rw [dig_val h1]; omega⟩
    · obtain ⟨d, l, e, h2, h3⟩ := ih (n / 10) (by omega) (by omega)
      rw [digN_more h1, e]
      exact ⟨d, _, rfl, h2, h3⟩

/-- A number's text. -/
def numT (n : Int) : List UInt8 := (if n < 0 then [45] else []) ++ digN n.natAbs ++ [44]
/-- All ahead of the comma. -/
def headT (n : Int) : List UInt8 := (if n < 0 then [45] else []) ++ digN n.natAbs
theorem numT_head (n : Int) : numT n = headT n ++ [44] := rfl
theorem headT_none (n : Int) : ∀ d ∈ headT n, d ≠ 44 := by
  intro d hd e
  subst e
  unfold headT at hd
  rw [List.mem_append] at hd
  rcases hd with hd | hd
  · split at hd
    · rw [List.mem_singleton] at hd; exact absurd hd (by decide)
    · cases hd
  · have := digN_digit _ _ hd
    exact absurd this (by decide)
theorem split_first {a b x y : List UInt8} (ha : ∀ d ∈ a, d ≠ 44) (hb : ∀ d ∈ b, d ≠ 44) (h : a ++ 44 :: x = b ++ 44 :: y) : a = b ∧ x = y := by
  induction a generalizing b with
  | nil =>
    cases b with
    | nil => exact ⟨rfl, (List.cons.inj h).2⟩
    | cons d b => exact absurd (List.cons.inj h).1.symm (hb d (List.mem_cons_self ..))
  | cons c a ih =>
    cases b with
    | nil => exact absurd (List.cons.inj h).1 (ha c (List.mem_cons_self ..))
    | cons d b =>
      obtain ⟨h1, h2⟩ := List.cons.inj h
      obtain ⟨h3, h4⟩ := ih (fun e he => ha e (List.mem_cons_of_mem _ he)) (fun e he => hb e (List.mem_cons_of_mem _ he)) h2
      exact ⟨by rw [h1, h3], h4⟩
theorem headT_inj {a b : Int} (h : headT a = headT b) : a = b := by
  unfold headT at h
  have dash : ∀ n l, digN n ≠ 45 :: l := fun n l e => by
    have := digN_digit n 45 (by rw [e]; exact List.mem_cons_self ..)
    exact absurd this (by decide)
  by_cases ha : a < 0
  · by_cases hb : b < 0
    · rw [if_pos ha, if_pos hb] at h
      have := digN_inj (List.cons.inj h).2
      omega
    · rw [if_pos ha, if_neg hb] at h
      exact absurd h.symm (dash _ _)
  · by_cases hb : b < 0
    · rw [if_neg ha, if_pos hb] at h
      exact absurd h (dash _ _)
    · rw [if_neg ha, if_neg hb] at h
      have := digN_inj h
      omega
/-- No number's text is another one's beginning. -/
theorem numT_front {a b : Int} {x y : List UInt8} (h : numT a ++ x = numT b ++ y) : a = b ∧ x = y := by
  rw [numT_head, numT_head, List.append_assoc, List.append_assoc] at h
  obtain ⟨h1, h2⟩ := split_first (headT_none a) (headT_none b) h
  exact ⟨headT_inj h1, h2⟩
theorem headT_len {n : Int} (h0 : -9223372036854775808 ≤ n) (h1 : n ≤ 9223372036854775807) : 1 ≤ (headT n).length ∧ (headT n).length ≤ 20 := by
  have h2 := digN_len n.natAbs 19 (by omega) (by omega)
  have h3 := digN_pos n.natAbs
  unfold headT
  rw [List.length_append]
  split
  · simp; omega
  · simp; omega

/-- What is taken from a text's front: a number from lo to hi, or none. -/
def Takes (S : List UInt8) (lo hi : Int) (r : Option (Int × List UInt8)) : Prop :=
  (∃ n rest, -9223372036854775808 ≤ n ∧ n ≤ 9223372036854775807 ∧ S = numT n ++ rest ∧ lo ≤ n ∧ n ≤ hi ∧ r = some (n, rest)) ∨
    ((¬ ∃ n rest, -9223372036854775808 ≤ n ∧ n ≤ 9223372036854775807 ∧ S = numT n ++ rest ∧ lo ≤ n ∧ n ≤ hi) ∧ r = none)
theorem takes_one {S : List UInt8} {lo hi : Int} {r q : Option (Int × List UInt8)} (h : Takes S lo hi r) (k : Takes S lo hi q) : r = q := by
  rcases h with ⟨n, x, a1, a2, a3, a4, a5, rfl⟩ | ⟨a1, rfl⟩ <;> rcases k with ⟨m, y, b1, b2, b3, b4, b5, rfl⟩ | ⟨b1, rfl⟩
  · rw [a3] at b3
    obtain ⟨rfl, rfl⟩ := numT_front b3
    rfl
  · exact absurd ⟨n, x, a1, a2, a3, a4, a5⟩ b1
  · exact absurd ⟨m, y, b1, b2, b3, b4, b5⟩ a1
  · rfl
theorem takes_some (S : List UInt8) (lo hi : Int) : ∃ r, Takes S lo hi r := by
  by_cases h : ∃ n rest, -9223372036854775808 ≤ n ∧ n ≤ 9223372036854775807 ∧ S = numT n ++ rest ∧ lo ≤ n ∧ n ≤ hi
  · obtain ⟨n, rest, a1, a2, a3, a4, a5⟩ := h
    exact ⟨_, .inl ⟨n, rest, a1, a2, a3, a4, a5, rfl⟩⟩
  · exact ⟨none, .inr ⟨h, rfl⟩⟩
end Go.Proofs.YtfjaibaidpbppaaGreatDoor

namespace Go.Proofs.YtfjaibaidpbppaaGreatDoor
open Go.RowKit

theorem ret_bool {a b : Bool} (h : a = b) : Ending.returned (.bool a) = .returned (.bool b) := by rw [h]
theorem ret_int {k : IntKind} {a b : Int} (h : a = b) : Ending.returned (.int k a) = .returned (.int k b) := by rw [h]
theorem ret_str {a b : ByteArray} (h : a = b) : Ending.returned (.string a) = .returned (.string b) := by rw [h]

/-- A piece, as a value. -/
def pcC (p : Pc) : Array Value := #[.int .u64 p.stamp, .int .i64 p.gen, .int .i64 p.no, .int .i64 p.idx, .int .i64 p.tot, .string p.data]

theorem info_byte3 : (Tryz.prog.info? 5).map (fun i => (i.zero, i.size, i.bytes)) = some (some (.int .u8 0), 1, 1) := by kernel_rfl
def cellsB (l : List UInt8) : List Value := l.map fun b => .int .u8 b.toNat
theorem cellsB_len (l : List UInt8) : (cellsB l).length = l.length := by simp [cellsB]
theorem valL_snoc (l : List UInt8) (b : UInt8) : valL (l ++ [b]) = 256 * valL l + b.toNat := by simp [valL, List.foldl_append]
theorem val_next (s : ByteArray) {k : Nat} (hk : k < s.size) : valL ((bl s).take (k + 1)) = 256 * valL ((bl s).take k) + s[k].toNat := by
  have hl : k < (bl s).length := by rw [bl_len]; exact hk
  rw [List.take_succ_eq_append_getElem hl, valL_snoc]
  rfl
theorem val_wrap (s : ByteArray) {k : Nat} (hk : k < s.size) (h8 : s.size ≤ 8) : IntKind.u64.wrap (IntKind.u64.wrap (256 * (valL ((bl s).take k) : Int)) + IntKind.u64.wrap (s[k].toNat : Int)) = (valL ((bl s).take (k + 1)) : Nat) := by
  have h1 := valL_lt ((bl s).take (k + 1))
  have hl : ((bl s).take (k + 1)).length = k + 1 := by rw [List.length_take, bl_len]; omega
  rw [hl] at h1
  have h2 : 256 ^ (k + 1) ≤ 256 ^ 8 := Nat.pow_le_pow_right (by omega) (by omega)
  rw [val_next s hk] at h1 ⊢
  rw [IntKind.wrap_u64, IntKind.wrap_u64, IntKind.wrap_u64]
  omega

theorem numL_get (n k : Nat) : ∀ {m : Nat}, m < k → (numL n k)[m]? = some (UInt8.ofNat (n / 256 ^ (k - 1 - m))) := by
  induction k with
  | zero => intro m h; omega
  | succ k ih =>
    intro m h
    rw [numL]
    rcases m with _ | m
    · simp
    · rw [List.getElem?_cons_succ, ih (by omega)]
      congr 3
      congr 1
      omega
theorem num_next {n : Int} (h0 : 0 ≤ n) {k m : Nat} (h : m < k) : cellsB ((numL n.toNat k).take m) ++ [.int .u8 (n / 2 ^ (8 * (k - 1 - m)) % 256)] = cellsB ((numL n.toNat k).take (m + 1)) := by
  have hl : m < (numL n.toNat k).length := by rw [numL_len]; exact h
  have hg := numL_get n.toNat k h
  rw [List.getElem?_eq_getElem hl] at hg
  rw [List.take_succ_eq_append_getElem hl, Option.some.inj hg]
  simp only [cellsB, List.map_append, List.map_cons, List.map_nil]
  congr 3
  have e : (UInt8.ofNat (n.toNat / 256 ^ (k - 1 - m))).toNat = n.toNat / 256 ^ (k - 1 - m) % 256 := by simp
  rw [e]
  have e2 : (2 : Int) ^ (8 * (k - 1 - m)) = ((256 ^ (k - 1 - m) : Nat) : Int) := by
    rw [Int.pow_mul]
    simp
  rw [e2]
  have e3 : n = (n.toNat : Int) := by omega
  conv => lhs; rw [e3]
  rw [← Int.natCast_ediv]
  omega
theorem one_cell_new (w : World) (x : Value) (t : TypeId) : ∀ j u, [x][j]? = some u → (w.alloc (.cells #[x] t)).cell? ((⟨w.heap.size, 0, none⟩ : Addr).add j) = some u := by
  intro j u hu
  rcases j with _ | j
  · obtain rfl : x = u := by simpa using hu
    simp [go_sem, Addr.add]
  · simp at hu
theorem strOf_cells (l : List UInt8) : strOfNums (l.map fun b => (b.toNat : Int)) = ofL l := by
  apply ByteArray.ext
  apply Array.ext'
  have : ∀ l : List UInt8, l.map ((fun n : Int => UInt8.ofNat n.toNat) ∘ fun b => (b.toNat : Int)) = l := by
    intro l
    induction l with
    | nil => rfl
    | cons b l ih => simp only [List.map_cons, ih, Function.comp, Int.toNat_natCast, UInt8.ofNat_toNat]
  simp [strOfNums, ofL, this]
/-- A row of the call's own, as a text. -/
theorem own_conv {w : World} {base n : Nat} {g cap : Nat} {l : List UInt8} (h : w.ownsRow base 5 1 (.slice (some ⟨g, 0, none⟩) n cap) n (cellsB l)) (hn : l.length = n) :
    (convert 120 9 (.slice (some ⟨g, 0, none⟩) n cap)).run Tryz.prog w = .ok (.string (ofL l)) w := by
  have := run_convert_bytes_arg w 120 5 Tryz.underlying120 Tryz.underlying5 g 0 n cap (l.map fun b => (b.toNat : Int)) (by simpa using hn) (fun i hi => ?_) 9 Tryz.underlying9
  · rw [strOf_cells] at this
    exact this
  · rw [Nat.zero_add, h.cellAt _ (by omega)]
    simp [cellsB, show i < l.length by omega]

end Go.Proofs.YtfjaibaidpbppaaGreatDoor

/-
  Plain words of sectors, on: a bit that is turned in the stamps; how many sectors a text takes, its pieces, and how they are read. No program is named here.
-/
import Derived.Test.YthmjeibanofliaaDoorSecP
namespace Go.Proofs.YthmjeibanofliaaDoor

/-- A sector with another byte in one of its stamps is none. -/
theorem turned_none {p : Pc} (h : p.Ok) {j : Nat} (hj : j < 8 ∨ (56 ≤ j ∧ j < 64)) {v : UInt8} (hv : (printL p)[j]? ≠ some v) : readP (ofL ((printL p).set j v)) = none := by
  cases hr : readP (ofL ((printL p).set j v)) with
  | none => rfl
  | some q =>
    have he := read_ends hr
    have hl := printL_len h.d
    obtain ⟨e1, e2⟩ := print_ends h.d
    rw [bl_ofL] at he
    exfalso
    apply hv
    rcases hj with hj | ⟨hj, hj2⟩
    · have h1 : ((printL p).set j v).drop 56 = (printL p).drop 56 := by rw [List.drop_set_of_lt (by omega)]
      rw [h1, e2] at he
      have h2 := congrArg (fun l => l[j]?) he
      simp only [List.getElem?_take, if_pos hj] at h2
      rw [List.getElem?_set_self (by omega), ← e1, List.getElem?_take, if_pos hj] at h2
      exact h2.symm
    · have h1 : ((printL p).set j v).take 8 = (printL p).take 8 := by
        refine List.ext_getElem? fun i => ?_
        rw [List.getElem?_take, List.getElem?_take]
        split
        · rw [List.getElem?_set_ne (by omega)]
        · rfl
      rw [h1, e1] at he
      have h2 := congrArg (fun l => l[j - 56]?) he
      simp only [List.getElem?_drop] at h2
      rw [show 56 + (j - 56) = j by omega, List.getElem?_set_self (by omega), ← e2, List.getElem?_drop, show 56 + (j - 56) = j by omega] at h2
      exact h2

/-- How many sectors a text of n bytes takes. -/
def cntI (n : Int) : Int := if n ≤ 37 then 1 else (n - 1) / 37 + 1
def cntN (n : Nat) : Nat := if n ≤ 37 then 1 else (n - 1) / 37 + 1
theorem cntI_nat (n : Nat) : cntI n = cntN n := by
  unfold cntI cntN
  by_cases h : n ≤ 37
  · rw [if_pos (by omega), if_pos h]; rfl
  · rw [if_neg (by omega), if_neg h]; omega
theorem cnt_pos (n : Nat) : 1 ≤ cntN n := by unfold cntN; split <;> omega
theorem cnt_room (n : Nat) : n ≤ 37 * cntN n ∧ (1 < cntN n → 37 * (cntN n - 1) < n) := by unfold cntN; split <;> omega

/-- The i-th piece of a text. -/
def pieceI (s : ByteArray) (stamp gen no : Int) (i : Nat) : Pc := ⟨stamp, gen, no, i, cntN s.size, s.extract (min s.size (37 * i)) (min s.size (37 * i + 37))⟩
/-- May its pieces be? -/
def layOk (s : ByteArray) (gen no : Int) : Bool := decide (0 ≤ gen) && decide (gen < 2147483648) && decide (0 ≤ no) && decide (no < 65536) && decide (cntN s.size < 65536)
theorem piece_right {s : ByteArray} {stamp gen no : Int} {i : Nat} (hi : i < cntN s.size) : rightP (pieceI s stamp gen no i) = layOk s gen no := by
  have h1 := cnt_pos s.size
  have h2 : (pieceI s stamp gen no i).data.size ≤ 37 := by simp only [pieceI, ByteArray.size_extract]; omega
  rw [Bool.eq_iff_iff]
  simp only [rightP, layOk, Bool.and_eq_true, decide_eq_true_eq]
  simp only [pieceI] at h2 ⊢
  omega
/-- A text's sectors. -/
def layL (s : ByteArray) (stamp gen no : Int) : List ByteArray := (List.range (cntN s.size)).map fun i => printB (pieceI s stamp gen no i)
theorem layL_len (s : ByteArray) (stamp gen no : Int) : (layL s stamp gen no).length = cntN s.size := by simp [layL]
theorem layL_at {s : ByteArray} {stamp gen no : Int} {i : Nat} (hi : i < cntN s.size) : (layL s stamp gen no)[i]? = some (printB (pieceI s stamp gen no i)) := by simp [layL, hi]
theorem piece_read {s : ByteArray} {stamp gen no : Int} {i : Nat} (hi : i < cntN s.size) (hok : layOk s gen no = true) (h0 : 0 ≤ stamp) (h1 : stamp < 18446744073709551616) : readP (printB (pieceI s stamp gen no i)) = some (pieceI s stamp gen no i) :=
  read_print ((rightP_iff _).1 ((piece_right hi).trans hok)) ⟨h0, h1⟩
/-- All but the last one are full; none behind the first one is empty. -/
theorem piece_size {s : ByteArray} {stamp gen no : Int} {i : Nat} : (i + 1 < cntN s.size → (pieceI s stamp gen no i).data.size = 37) ∧ (0 < i → i < cntN s.size → (pieceI s stamp gen no i).data.size ≠ 0) := by
  obtain ⟨h1, h2⟩ := cnt_room s.size
  simp only [pieceI, ByteArray.size_extract]
  constructor
  · intro h
    have := h2 (by omega)
    omega
  · intro h3 h4
    have := h2 (by omega)
    omega
/-- The first i pieces' texts, one behind the other. -/
def joinP (s : ByteArray) (i : Nat) : ByteArray := s.extract 0 (min s.size (37 * i))
theorem joinP_next (s : ByteArray) (stamp gen no : Int) (i : Nat) : joinP s i ++ (pieceI s stamp gen no i).data = joinP s (i + 1) := by
  apply bl_inj
  simp only [joinP, pieceI, bl_append, bl_extract, List.drop_zero]
  have hl : (bl s).length = s.size := bl_len s
  have h1 : (bl s).take (min s.size (37 * i)) = ((bl s).take (min s.size (37 * i + 37))).take (min s.size (37 * i)) := by
    rw [List.take_take]
    congr 1
    omega
  rw [h1, List.take_append_drop]
  congr 1
theorem joinP_all (s : ByteArray) : joinP s (cntN s.size) = s := by
  have h := (cnt_room s.size).1
  unfold joinP
  rw [show min s.size (37 * cntN s.size) = s.size by omega, ByteArray.extract_zero_size]

/-- The text that stands at a place, of sectors that rd tells: document's words (layer 4). -/
def nextF (rd : Int → ByteArray) (at_ end_ gen no : Int) : Nat → Nat → Option Pc → ByteArray → Option (ByteArray × Int)
  | 0, _, _, _ => none
  | f + 1, i, first, acc =>
    if end_ ≤ at_ + i then none else
    match readP (rd (at_ + i)) with
    | none => none
    | some p =>
      let q := first.getD p
      if p.gen = gen ∧ p.no = no ∧ p.idx = i ∧ p.stamp = q.stamp ∧ p.tot = q.tot ∧ ((i : Int) < p.tot - 1 → p.data.size = 37) ∧ (0 < i → p.data.size ≠ 0) then
        if (i : Int) = p.tot - 1 then some (acc ++ p.data, at_ + i + 1) else nextF rd at_ end_ gen no f (i + 1) (some q) (acc ++ p.data)
      else none
def nextP (rd : Int → ByteArray) (at_ end_ gen no : Int) : Option (ByteArray × Int) := nextF rd at_ end_ gen no (end_ - at_).toNat 0 none ⟨#[]⟩

/-- A text that was laid is found, if there is room to its end. -/
theorem next_lay {rd : Int → ByteArray} {s : ByteArray} {stamp gen no at_ end_ : Int} (hok : layOk s gen no = true) (h0 : 0 ≤ stamp) (h1 : stamp < 18446744073709551616)
    (hrd : ∀ i : Nat, i < cntN s.size → rd (at_ + i) = printB (pieceI s stamp gen no i)) (hend : at_ + cntN s.size ≤ end_) :
    ∀ (d i f : Nat) (first : Option Pc), i + d = cntN s.size → 0 < d → d ≤ f → (∀ q, first = some q → q.stamp = stamp ∧ q.tot = cntN s.size) →
      nextF rd at_ end_ gen no f i first (joinP s i) = some (s, at_ + cntN s.size)
  | 0, _, _, _, _, hd, _, _ => absurd hd (by omega)
  | d + 1, i, 0, _, _, _, hf, _ => absurd hf (by omega)
  | d + 1, i, f + 1, first, hi, _, hf, hq => by
    have hlt : i < cntN s.size := by omega
    have hr := piece_read (stamp := stamp) hlt hok h0 h1
    obtain ⟨hs1, hs2⟩ := piece_size (s := s) (stamp := stamp) (gen := gen) (no := no) (i := i)
    have hq2 : (first.getD (pieceI s stamp gen no i)).stamp = stamp ∧ (first.getD (pieceI s stamp gen no i)).tot = cntN s.size := by
      cases first with
      | none => exact ⟨rfl, rfl⟩
      | some q => exact hq q rfl
    unfold nextF
    rw [if_neg (by omega), hrd i hlt, hr]
    simp only
    rw [if_pos ⟨rfl, rfl, rfl, hq2.1.symm, hq2.2.symm, fun h => hs1 (by simp only [pieceI] at h; omega), fun h => hs2 h hlt⟩, joinP_next]
    by_cases hl : d = 0
    · have e1 : (i : Int) = (pieceI s stamp gen no i).tot - 1 := by show (i : Int) = ((cntN s.size : Nat) : Int) - 1; omega
      have e2 : at_ + (i : Int) + 1 = at_ + cntN s.size := by omega
      rw [if_pos e1, show i + 1 = cntN s.size by omega, joinP_all, e2]
    · have e1 : ¬ (i : Int) = (pieceI s stamp gen no i).tot - 1 := by show ¬ (i : Int) = ((cntN s.size : Nat) : Int) - 1; omega
      rw [if_neg e1]
      exact next_lay hok h0 h1 hrd hend d (i + 1) f _ (by omega) (by omega) (by omega) (fun q e => by obtain rfl := Option.some.inj e; exact hq2)
/-- .. and not, if the end is ahead of its last sector. -/
theorem next_short {rd : Int → ByteArray} {s : ByteArray} {stamp gen no at_ end_ : Int} (hok : layOk s gen no = true) (h0 : 0 ≤ stamp) (h1 : stamp < 18446744073709551616)
    (hrd : ∀ i : Nat, i < cntN s.size → rd (at_ + i) = printB (pieceI s stamp gen no i)) (hend : end_ < at_ + cntN s.size) :
    ∀ (f i : Nat) (first : Option Pc) (acc : ByteArray), i < cntN s.size → (∀ q, first = some q → q.stamp = stamp ∧ q.tot = cntN s.size) → nextF rd at_ end_ gen no f i first acc = none
  | 0, _, _, _, _, _ => rfl
  | f + 1, i, first, acc, hi, hq => by
    unfold nextF
    by_cases he : end_ ≤ at_ + i
    · rw [if_pos he]
    · have hr := piece_read (stamp := stamp) hi hok h0 h1
      obtain ⟨hs1, hs2⟩ := piece_size (s := s) (stamp := stamp) (gen := gen) (no := no) (i := i)
      have hq2 : (first.getD (pieceI s stamp gen no i)).stamp = stamp ∧ (first.getD (pieceI s stamp gen no i)).tot = cntN s.size := by
        cases first with
        | none => exact ⟨rfl, rfl⟩
        | some q => exact hq q rfl
      rw [if_neg he, hrd i hi, hr]
      simp only
      rw [if_pos ⟨rfl, rfl, rfl, hq2.1.symm, hq2.2.symm, fun h => hs1 (by simp only [pieceI] at h; omega), fun h => hs2 h hi⟩]
      have e1 : ¬ (i : Int) = (pieceI s stamp gen no i).tot - 1 := by show ¬ (i : Int) = ((cntN s.size : Nat) : Int) - 1; omega
      rw [if_neg e1]
      exact next_short hok h0 h1 hrd hend f (i + 1) _ _ (by omega) (fun q e => by obtain rfl := Option.some.inj e; exact hq2)
/-- .. and not under another number. -/
theorem next_other {rd : Int → ByteArray} {p : Pc} {at_ end_ gen no : Int} (hr : readP (rd at_) = some p) (hne : p.no ≠ no) : nextP rd at_ end_ gen no = none := by
  unfold nextP
  cases (end_ - at_).toNat with
  | zero => rfl
  | succ f =>
    unfold nextF
    split
    · rfl
    · rw [show at_ + ((0 : Nat) : Int) = at_ by omega, hr]
      simp only
      rw [if_neg (fun h => hne h.2.1)]
end Go.Proofs.YthmjeibanofliaaDoor

/-
  Plain words for DiskFlushed: what is kept where each sector is written at most once. No program is named here.
-/
import Derived.Test.YtabjpmofakdacaaDiskG
namespace Go.Proofs.Ytabjpmofakdacaa
open Go.RowKit

/-- Each sector is written at most once: by the q j-th write. -/
theorem keptTo_at {f : Nat → Nat} {c : List (Int × ByteArray)} {kept : List ByteArray} {p q : Nat → Nat} {s : Nat → ByteArray} {N : Nat} (hN : kept.length = N)
    (hc : ∀ k, k < c.length → c[k]? = some ((p k : Int), s k)) (hp : ∀ k, k < c.length → p k < N) (hq : ∀ k j, k < c.length → j < N → (p k = j ↔ k = q j)) :
    ∀ m, m ≤ c.length → ∀ j, j < N → (keptTo f c kept m).getD j ⟨#[]⟩ = if q j < m then tearB (f (q j)) (s (q j)) (kept.getD j ⟨#[]⟩) else kept.getD j ⟨#[]⟩
  | 0, _, j, _ => by simp [keptTo]
  | m + 1, hm, j, hj => by
    have ih := keptTo_at (f := f) hN hc hp hq m (by omega)
    have hl := keptTo_len f c kept m
    rw [keptTo, hc m (by omega)]
    simp only [Int.toNat_natCast]
    by_cases e : p m = j
    · have hqm : m = q j := (hq m j (by omega) hj).1 e
      rw [e]
      have h1 := ih j hj
      rw [if_neg (by omega)] at h1
      rw [h1, if_pos (by omega), ← hqm]
      rw [List.getD_eq_getElem?_getD, List.getElem?_set_self (by omega)]
      rfl
    · have hqm : ¬ m = q j := fun h => e ((hq m j (by omega) hj).2 h)
      rw [List.getD_eq_getElem?_getD, List.getElem?_set_ne e, ← List.getD_eq_getElem?_getD, ih j hj]
      by_cases h : q j < m
      · rw [if_pos h, if_pos (by omega)]
      · rw [if_neg h, if_neg (by omega)]

section
variable {tx ty : Nat → ByteArray} {n1 n2 : Nat} {b : Int}

def firstC (tx : Nat → ByteArray) (k : Nat) : List (Int × ByteArray) := (List.range k).map fun (i : Nat) => ((i : Int), fillB (tx i))
def secondC (ty : Nat → ByteArray) (k : Nat) : List (Int × ByteArray) := (List.range k).map fun (i : Nat) => (29 - (i : Int), fillB (ty i))
/-- The disk behind k writes of the first list. -/
def st1 (tx : Nat → ByteArray) (k : Nat) : Dk := { newS 30 with cache := firstC tx k, writes := k }
/-- .. and, flushed, behind k writes of the second one. -/
def st2 (tx ty : Nat → ByteArray) (n1 k : Nat) : Dk := { flushS (st1 tx n1) with cache := secondC ty k, writes := n1 + k }
/-- What sector i has behind the flush. -/
def base1 (tx : Nat → ByteArray) (n1 i : Nat) : ByteArray := if i < n1 then fillB (tx i) else zeroB 64
theorem base1_size (i : Nat) : (base1 tx n1 i).size = 64 := by unfold base1; split; exact fillB_size _; exact zeroB_size _

theorem firstC_len (k : Nat) : (firstC tx k).length = k := by simp [firstC]
theorem secondC_len (k : Nat) : (secondC ty k).length = k := by simp [secondC]
theorem st1_next {k : Nat} (hk : k < 30) : writeS (st1 tx k) k (fillB (tx k)) = st1 tx (k + 1) ∧ writeE (st1 tx k) k (fillB (tx k)) = 0 := by
  have ho : outB (st1 tx k) k = false := by simp [outB, st1, newS]; omega
  have e1 : (st1 tx k).off = false := rfl
  have e2 : (st1 tx k).armed = 0 := rfl
  constructor
  · unfold writeS
    rw [e1, ho, if_neg (by simp), if_neg (by simp), if_neg (by simp [fillB_size]), e2, if_neg (by omega)]
    simp [putS, st1, firstC, List.range_succ, newS]
  · unfold writeE
    rw [e1, ho, if_neg (by simp), if_neg (by simp), if_neg (by simp [fillB_size]), e2, if_neg (by omega)]
theorem st2_next {k : Nat} (hk : k < 30) : writeS (st2 tx ty n1 k) (29 - (k : Int)) (fillB (ty k)) = st2 tx ty n1 (k + 1) ∧ writeE (st2 tx ty n1 k) (29 - (k : Int)) (fillB (ty k)) = 0 := by
  have e1 : (st2 tx ty n1 k).off = false := rfl
  have e2 : (st2 tx ty n1 k).armed = 0 := rfl
  have e3 : (st2 tx ty n1 k).kept.length = 30 := by simp [st2, flushS, st1, newS, keptTo_len]
  have ho : outB (st2 tx ty n1 k) (29 - (k : Int)) = false := by simp [outB, e3]; omega
  constructor
  · unfold writeS
    rw [e1, ho, if_neg (by simp), if_neg (by simp), if_neg (by simp [fillB_size]), e2, if_neg (by omega)]
    simp [putS, st2, secondC, List.range_succ, flushS, st1, newS]
    omega
  · unfold writeE
    rw [e1, ho, if_neg (by simp), if_neg (by simp), if_neg (by simp [fillB_size]), e2, if_neg (by omega)]
theorem st2_start : flushS (st1 tx n1) = st2 tx ty n1 0 := by simp [st2, flushS, st1, secondC, newS]
theorem flush1_at (h1 : n1 ≤ 30) {i : Nat} (hi : i < 30) : (flushS (st1 tx n1)).kept.getD i ⟨#[]⟩ = base1 tx n1 i := by
  have h := keptTo_at (f := fun _ => 64) (c := firstC tx n1) (kept := List.replicate 30 (zeroB 64)) (p := fun k => k) (q := fun k => k) (s := fun k => fillB (tx k)) (N := 30) (by simp)
    (fun k hk => by rw [firstC_len] at hk; simp [firstC, hk]) (fun k hk => by rw [firstC_len] at hk; omega) (fun k j _ _ => Iff.rfl) n1 (by rw [firstC_len]; exact Nat.le_refl _) i hi
  have e : (flushS (st1 tx n1)).kept = keptTo (fun _ => 64) (firstC tx n1) (List.replicate 30 (zeroB 64)) n1 := by simp [flushS, st1, newS, firstC_len]
  rw [e, h]
  have hz : (List.replicate 30 (zeroB 64)).getD i ⟨#[]⟩ = zeroB 64 := by rw [List.getD_eq_getElem?_getD, List.getElem?_replicate, if_pos hi]; rfl
  rw [hz]
  unfold base1
  split
  · exact tear64 (fillB_size _) (zeroB_size _)
  · rfl
/-- What is kept of sector i behind the failure. -/
theorem crash_at (h1 : n1 ≤ 30) (h2 : n2 ≤ 30) {i : Nat} (hi : i < 30) :
    keptV (crashS (st2 tx ty n1 n2) b) i = if 29 - i < n2 then tearB (fateF b (29 - i)) (fillB (ty (29 - i))) (base1 tx n1 i) else base1 tx n1 i := by
  have e3 : (flushS (st1 tx n1)).kept.length = 30 := by simp [flushS, st1, newS, keptTo_len]
  have h := keptTo_at (f := fateF b) (c := secondC ty n2) (kept := (flushS (st1 tx n1)).kept) (p := fun k => 29 - k) (q := fun k => 29 - k) (s := fun k => fillB (ty k)) (N := 30) e3
    (fun k hk => by rw [secondC_len] at hk; simp [secondC, hk]; omega) (fun k hk => by omega) (fun k j hk hj => by rw [secondC_len] at hk; omega) n2 (by rw [secondC_len]; exact Nat.le_refl _) i hi
  have e : (crashS (st2 tx ty n1 n2) b).kept = keptTo (fateF b) (secondC ty n2) (flushS (st1 tx n1)).kept n2 := by
    have : (st2 tx ty n1 n2).off = false := rfl
    unfold crashS
    rw [this, if_neg (by simp)]
    simp [st2, secondC_len]
  have hl : (crashS (st2 tx ty n1 n2) b).kept.length = 30 := by rw [e, keptTo_len, e3]
  unfold keptV
  rw [if_neg (by rw [hl]; omega), Int.toNat_natCast, e, h, flush1_at h1 hi]
end
end Go.Proofs.Ytabjpmofakdacaa
